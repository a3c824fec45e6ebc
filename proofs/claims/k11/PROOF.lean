import PyProof.Rows.All
import Wide.All
import OpenK.AllK
import Wide.FinOn
import HandS.ForMost
import HandS.Zip
import HandS.AnyAll
import PyProof.TupleOfGen
import PyProof.GenCompT
import KE.GoesEnum
import HandS.IsInst
import HandS.Walk
import HandS.EndOwn
import HandS.TupMul
import HandS.Wide
import HandS.TupAny
import HandS.SortKw
import KE.DataMinMax
import KE.KEqSeq
import PyProof.StrBlock2
import HandS.SortInts
import HandS.Codes
import KE.SortKeyHeap
import HandS.Rev
import HandS.SetFor
import KE.DataFind
import HandS.More
import HandS.Style
import HandS.Star
import HandS.SetBool
import HandS.SetIn
import KE.SortData
import HandS.ExcInit
import HandS.ExcValue
import HandS.ExcIs
import HandS.ExcField
import KE.KExcSuper
import KE.KExcIs
import HandS.RaiseMore
import HandS.WordsExc
import HandS.FStr
import PyProof.ZipIter
import PyProof.Rows.StrMeet
import HandS.WordsDict
import PySem.Challenge.RW_clusterhall_k11_left_over
set_option Elab.async false
set_option linter.all false
set_option maxRecDepth 100000
set_option maxHeartbeats 2000000
namespace GX
open PySem PySem.Spec PyProof.Rows L2 GxR
/-- what the element of a generator expression meets: its own frame, and all that stood when the walked thing was made, but for the table at P -/
structure Ask (X : Cx) (scope : Scope) (P : Addr) (s1 : Shared) (cenv : Env) (s2 : Shared) (m2 : Str → Option Value) : Prop where
  sc : cenv.scope = scope
  gl : cenv.globals = X.env.globals
  bl : cenv.builtins = builtinsNs
  ce : cenv.cells = cloFrom X.env.cells scope.names []
  ns : s2.heap.Ns cenv.locals m2
  kp : ∀ b o, b ≠ P → s1.heap.get? b = some o → s2.heap.get? b = some o
  tb : ∃ ps, s1.heap.get? P = some { cls := .none, data := .fields ps }
/-- the element, over one name -/
def Elt1 (X : Cx) (scope : Scope) (P : Addr) (x : Str) (elt : Expr) (pre : L2.St → V → Prop) (g : L2.St → V → V) : Prop :=
  ∀ (pins : List (Addr × Obj)) (σ : L2.St) (H : Hp) (s1 : Shared) (cenv : Env) (B : Around) (Er : Value → Shared → Prop) (s2 : Shared) (m2 : Str → Option Value) (v : V) (u : Value),
    Inv X pins σ H s1 → Ask X scope P s1 cenv s2 m2 → B.handled = none → m2 x = some u → RelV v u → pre σ v →
    wpAny (model X.prog X.w) B (eval elt cenv) (fun y s3 => RelV (g σ v) y ∧ Keeps s2 s3) Er s2
/-- the element, over two names -/
def Elt2 (X : Cx) (scope : Scope) (P : Addr) (xa xb : Str) (elt : Expr) (pre : L2.St → V → V → Prop) (g : L2.St → V → V → V) : Prop :=
  ∀ (pins : List (Addr × Obj)) (σ : L2.St) (H : Hp) (s1 : Shared) (cenv : Env) (B : Around) (Er : Value → Shared → Prop) (s2 : Shared) (m2 : Str → Option Value) (v w : V) (u z : Value),
    Inv X pins σ H s1 → Ask X scope P s1 cenv s2 m2 → B.handled = none → m2 xa = some u → m2 xb = some z → RelV v u → RelV w z → pre σ v w →
    wpAny (model X.prog X.w) B (eval elt cenv) (fun y s3 => RelV (g σ v w) y ∧ Keeps s2 s3) Er s2
/-- the walked thing stands ready: its items are vs -/
def Begun (X : Cx) (P : Addr) (s1 : Shared) (vs : List V) (it : Value) (s2 : Shared) : Prop :=
  ∃ (Ia : Addr) (fp wr : List Addr) (Pf : Nat → Value → Prop) (Sf : Nat → Heap → Prop) (h2 : Heap) (t2 : Nat), it = .ref Ia ∧ s2 = { s1 with heap := h2, toks := t2 } ∧ (∀ b o, s1.heap.get? b = some o → h2.get? b = some o) ∧ s1.heap.objs.size ≤ h2.objs.size ∧
    (∀ B : Around, B.handled = none → Walks X.prog X.w B Ia fp wr vs.length Pf Sf) ∧ Sf 0 h2 ∧ (∀ b ∈ fp, b < h2.objs.size ∧ b ≠ P) ∧ (∀ b ∈ wr, s1.heap.objs.size ≤ b) ∧ ∀ i u, Pf i u → ∃ v, vs[i]? = some v ∧ RelV v u
/-- the same, its items pairs -/
def Begun2 (X : Cx) (P : Addr) (s1 : Shared) (vs : List (V × V)) (it : Value) (s2 : Shared) : Prop :=
  ∃ (Ia : Addr) (fp wr : List Addr) (Pf : Nat → Array Value → Prop) (Sf : Nat → Heap → Prop) (Mid : Nat → Addr → Heap → Prop) (h2 : Heap) (t2 : Nat), it = .ref Ia ∧ s2 = { s1 with heap := h2, toks := t2 } ∧ (∀ b o, s1.heap.get? b = some o → h2.get? b = some o) ∧ s1.heap.objs.size ≤ h2.objs.size ∧
    (∀ B : Around, B.handled = none → WalksU X.prog X.w B Ia fp wr vs.length Pf Sf Mid) ∧ Sf 0 h2 ∧ (∀ b ∈ fp, b < h2.objs.size ∧ b ≠ P) ∧ (∀ b ∈ wr, s1.heap.objs.size ≤ b) ∧ ∀ i us, Pf i us → ∃ v w u z, us = #[u, z] ∧ vs[i]? = some (v, w) ∧ RelV v u ∧ RelV w z
/-- a generator at g stands ready in s5; it will give the values of ws; H1: what was held before -/
def Ready (X : Cx) (pins : List (Addr × Obj)) (σ : L2.St) (H1 : Hp) (P : Addr) (ws : List V) (g : Addr) (s5 : Shared) : Prop :=
  ∃ (fp wr : List Addr) (G : Array GenState → Array GenState → Prop) (F : Nat → Value → Prop) (Sf : Nat → Shared → Prop),
    WalksS X.prog X.w X.A.in4 g fp wr G ws.length F Sf ∧ Sf 0 s5 ∧ (∀ b ∈ fp, b < s5.heap.objs.size) ∧ g ∈ fp ∧ (∀ i s9, Sf i s9 → s9.TypeIs (.ref g) "generator") ∧ (∀ j y, F j y → ∃ v, ws[j]? = some v ∧ RelV v y) ∧
    ∀ s', Moved wr G s5 s' → ∃ H2, Tabbed P H1 H2 ∧ Inv X pins σ H2 s'
/-- what the scope of a generator expression, with its first name x, is, within a def of the scope sc -/
structure GenV (sc scope : Scope) (x : Str) : Prop where
  kind : scope.kind = .function
  co : scope.isCoroutine = false
  cell : ∀ y ∈ scope.names, y.2 ≠ .cell
  dot : scope.names.lookup (".0" : Str) = some NameKind.local
  loc : scope.names.lookup x = some .local
  free : ∀ y ∈ scope.names, y.2 = .free → sc.names.lookup y.1 = some .cell ∨ sc.names.lookup y.1 = some .free
section
variable {X : Cx} {pins : List (Addr × Obj)} {σ : L2.St} {H : Hp} {s : Shared}
theorem GenV.to {scope : Scope} {x : Str} (S : GenV X.env.scope scope x) (I : Inv X pins σ H s) : GenS X.env scope x :=
  ⟨S.kind, S.co, S.cell, S.dot, S.loc, fun y hy e => by
    rcases S.free y hy e with k | k
    · exact I.ok.has _ (.inl k)
    · exact I.ok.has _ (.inr k)⟩
theorem all_pass (n : Nat) : passing (fun _ => true) n 0 = List.range n := by
  simp [passing]
theorem gen1 {c P : Addr} {elt iter : Expr} {x : Str} {px gpos : Pos} {scope : Scope} {pre : L2.St → V → Prop} {g : L2.St → V → V} {k : Nat} {Qg : Value → Shared → Prop}
    (hr : Room k X.A) (TB : TabB X.base X.mg c P) (hcode : X.env.code = .ref c) (S : GenS X.env scope x) (hel : Elt1 X scope P x elt pre g) (hs : ∀ v, genFold iter X.env v = pure v)
    (h : wpAny (model X.prog X.w) X.A (eval iter X.env) (fun xv sA => ∃ H1 s1, Inv X pins σ H1 s1 ∧ TabG H1 P ∧
      wpAny (model X.prog X.w) X.A (pyIter xv) (fun it s2 => ∃ vs, Begun X P s1 vs it s2 ∧ (∀ v ∈ vs, pre σ v) ∧ ∀ a s5, Ready X pins σ H1 P (vs.map (g σ)) a s5 → Qg (.ref a) s5) X.xe sA) X.xe s) :
    wpAny (model X.prog X.w) X.A (eval (.GeneratorExp elt [⟨.Name x px, iter, [], 0⟩] scope gpos) X.env) Qg X.xe s := by
  refine wpAny_GeneratorExp_walksQ hr.hd S.co (closure_ok S.free) S.cell S.dot S.loc S.kind (by have := hr.dp; omega) ?_ hs
  refine wpAny_mono h (fun xv sA h1 => ?_) (fun _ _ e => e)
  obtain ⟨H1, s1, I1, ⟨ps, hP, ht⟩, hit⟩ := h1
  refine wpAny_mono hit (fun it s2 h2 => ?_) (fun _ _ e => e)
  obtain ⟨vs, ⟨Ia, fp, wr, Pf, Sf, hp2, t2, rfl, rfl, kp, sz, W, st0, hfp, hwr, hPf⟩, hpre, hQ⟩ := h2
  have tabS : s1.heap.get? P = some { cls := .none, data := .fields ps } := I1.hok P _ hP
  have tabL : P < s1.heap.objs.size := Heap.lt_size tabS
  have tab2 : hp2.get? P = some { cls := .none, data := .fields ps } := kp _ _ tabS
  have cd : PySem.W.CodeHd hp2 c P := TB.code.keeps fun b u e => kp b u (I1.bk b u e)
  have lim : hp2.NoLimit := I1.nolimit.keeps kp
  refine ⟨lim, ?_⟩
  have cont : ∀ (code : Value) (h3 : Heap) (tk : Nat) (ps' : Array Value), Heap.ExtBut P hp2 h3 → hp2.objs.size ≤ h3.objs.size → h3.get? P = some { cls := .none, data := .fields ps' } → (∃ more, ps' = ps ++ more) → TriplesOk ps'.toList →
      wpAny (model X.prog X.w) X.A (builtinsFor X.env.globals X.env.builtins) (fun bi s4 =>
        ∃ I fp wr n0 P0 St0 pz F, Value.ref Ia = .ref I ∧ (∀ B : Around, B.handled = none → Walks X.prog X.w B I fp wr n0 P0 St0) ∧ St0 0 s4.heap ∧ (∀ b ∈ fp, b < s4.heap.objs.size) ∧ s4.heap.NoLimit ∧ cStatics ∉ wr ∧
          (∀ hf : Heap, (∀ b o, s4.heap.get? b = some o → hf.get? b = some o) →
            QuietGen X.prog X.w (genEnv scope (cloFrom X.env.cells scope.names []) s4.heap.objs.size code bi X.env) x [] elt (List.range s4.heap.objs.size) wr P0 pz F hf) ∧
          (∀ a h5 tk gs, gs.bare = true → s4.heap.objs.size < a → h5.objs.size = a + 1 → (∀ b o, s4.heap.get? b = some o → h5.get? b = some o) →
            WalksS X.prog X.w X.A.in4 a (a :: s4.heap.objs.size :: List.range s4.heap.objs.size) (s4.heap.objs.size :: wr) (GenOnlyQ s4.gens.size) (passing pz n0 0).length
              (fun j y => ∃ i, (passing pz n0 0)[j]? = some i ∧ F i y) (GenAt X.prog X.w X.A.in4 a s4.gens.size s4.heap.objs.size (List.range s4.heap.objs.size) wr pz n0 F) →
            GenAt X.prog X.w X.A.in4 a s4.gens.size s4.heap.objs.size (List.range s4.heap.objs.size) wr pz n0 F 0 { s4 with gens := s4.gens.push gs, toks := tk, heap := h5 } →
            Qg (.ref a) { s4 with gens := s4.gens.push gs, toks := tk, heap := h5 })) X.xe { s1 with heap := h3, toks := tk } := by
    intro code h3 tk ps' hx hsz hP3 hmore ht3
    obtain ⟨bm, ob, e1, e2, e3, e4, e5, e6, e7, e8⟩ := TB.bm
    have kp3 : ∀ b u, b ≠ P → s1.heap.get? b = some u → h3.get? b = some u := fun b u hb e => hx b u hb (kp b u e)
    have ncs : cStatics < s1.heap.objs.size := let ⟨_, hns, _⟩ := I1.nolimit; hns.lt
    have ncP : cStatics ≠ P := fun e => by
      obtain ⟨_, ⟨o', es, ep, ho, hd, _⟩, _⟩ := I1.nolimit
      rw [e, tabS] at ho
      cases ho
      cases hd
    refine wpAny_builtinsFor (m := X.mg) (by rw [I1.ok.glob]; exact ((I1.mod.glob.keeps I1.bk).keeps kp).extBut hx TB.gP) e1 e2 (kp3 _ _ e4 (I1.bk _ _ e5)) e6 e7 e8 ?_
    refine ⟨Ia, fp, wr, vs.length, Pf, Sf, (fun _ => true), (fun i y => ∃ v, vs[i]? = some v ∧ RelV (g σ v) y), rfl, W, ?_, fun b hb => Nat.lt_of_lt_of_le (hfp b hb).1 hsz, lim.extBut hx ncP, fun z => Nat.lt_irrefl _ (Nat.lt_of_lt_of_le ncs (hwr _ z)), ?_, ?_⟩
    · exact (W X.A hr.hd).frame _ _ _ st0 fun b hb u e => hx b u (hfp b hb).2 e
    · intro hf hkf
      refine ⟨fun B Er i v s2 m2 hB hv hn hm hk => ?_, fun B Er i v s2 m2 hB hv hp hn hm hk => ?_⟩
      · simp only [List.forIn_nil]
        exact wpAny_pure ⟨rfl, keeps_refl _⟩
      · obtain ⟨v', hv', rv⟩ := hPf i v hv
        have ask : Ask X scope P s1 (genEnv scope (cloFrom X.env.cells scope.names []) h3.objs.size code builtinsNs X.env) s2 m2 := by
          refine ⟨rfl, rfl, rfl, rfl, hn, fun b o hb e => ?_, ⟨ps, tabS⟩⟩
          have hl : b < s1.heap.objs.size := Heap.lt_size e
          refine hk b (List.mem_range.mpr (Nat.lt_of_lt_of_le hl (Nat.le_trans sz hsz))) (fun z => ?_) o (hkf b o (kp3 b o hb e))
          exact Nat.lt_irrefl _ (Nat.lt_of_lt_of_le hl (hwr b z))
        exact wpAny_mono (hel pins σ H1 s1 _ B Er s2 m2 v' v I1 ask hB hm rv (hpre v' (List.mem_of_getElem? hv'))) (fun y s3 r => ⟨⟨v', hv', r.1⟩, r.2⟩) fun _ _ e => e
    · intro a h5 tk5 gs hgb hag hsz5 hk5 W5 hat
      simp only [all_pass, List.length_range] at W5
      refine hQ a _ ⟨_, _, _, _, _, by rw [List.length_map]; exact W5, hat, fun b hb => ?_, List.mem_cons_self, fun i s9 st => ?_, fun j y hy => ?_, fun s' hm => ?_⟩
      · show b < h5.objs.size
        rcases List.mem_cons.mp hb with z | z
        · rw [z, hsz5]
          exact Nat.lt_succ_self _
        · rcases List.mem_cons.mp z with z | z
          · rw [z, hsz5]
            exact Nat.lt_succ_of_lt hag
          · rw [hsz5]
            exact Nat.lt_succ_of_lt (Nat.lt_trans (List.mem_range.mp z) hag)
      · exact st.1.typeIs
      · obtain ⟨i, hij, v, hv, ry⟩ := hy
        obtain ⟨hj, ej⟩ := List.getElem?_eq_some_iff.mp hij
        rw [List.getElem_range] at ej
        subst ej
        exact ⟨g σ v, by rw [List.getElem?_map, hv]; rfl, ry⟩
      · obtain ⟨more, em⟩ := hmore
        have nwr : ∀ b u, s1.heap.get? b = some u → b ∉ h3.objs.size :: wr := fun b u e hb => by
          have hl := Heap.lt_size e
          rcases List.mem_cons.mp hb with z | z
          · rw [z] at hl
            exact Nat.lt_irrefl _ (Nat.lt_of_lt_of_le hl (Nat.le_trans sz hsz))
          · exact Nat.lt_irrefl _ (Nat.lt_of_lt_of_le hl (hwr b z))
        have J := inv_tab (more := more) (h' := s'.heap) (g' := s'.gens) (d' := s'.drawn) (t' := s'.toks) I1 hP (fun b u hb e => hm.heap b u (nwr b u e) (hk5 b u (kp3 b u hb e)))
          (by rw [← em]; exact hm.heap P _ (nwr P _ tabS) (hk5 P _ hP3)) (AllBare.movedS (I1.bare.push hgb) hm)
        rw [sh_eta s1 s' hm.os] at J
        exact ⟨upd H1 P (.tbl (ps ++ more)), ⟨⟨ps ++ more, upd_same, by rw [← em]; exact ht3⟩, fun b hb => upd_ne hb⟩, J⟩
  cases hf : codeAmong gpos ps.toList with
  | none =>
    refine wpAny_genexprCodeX hcode (cd.code tab2 ht) (cd.tab tab2) hf fun c' h' tk hx hge hlt hco' _ htab' _ => ?_
    obtain ⟨o1, us, f1, tf, fl, tg, inF, tx, tt, op, _, _, _, _, _, _, _, _, _, htr, _⟩ := hco'
    exact cont _ h' tk _ hx (Nat.le_trans hge (Nat.le_of_lt hlt)) htab'.2 ⟨_, rfl⟩ htr
  | some cv =>
    refine wpAny_genexprCode_hit hcode (cd.code tab2 ht) hf ?_
    exact cont cv hp2 t2 ps (Heap.ExtBut.refl _ _) (Nat.le_refl _) tab2 ⟨#[], by simp⟩ ht
theorem gen2 {c P : Addr} {elt iter : Expr} {xa xb : Str} {pa pb pt gpos : Pos} {kt : Nat} {scope : Scope} {pre : L2.St → V → V → Prop} {g : L2.St → V → V → V} {k : Nat} {Qg : Value → Shared → Prop}
    (hr : Room k X.A) (TB : TabB X.base X.mg c P) (hcode : X.env.code = .ref c) (S : GenS X.env scope xa) (Sb : scope.names.lookup xb = some .local) (hab : xa ≠ xb) (hel : Elt2 X scope P xa xb elt pre g) (hs : ∀ v, genFold iter X.env v = pure v)
    (h : wpAny (model X.prog X.w) X.A (eval iter X.env) (fun xv sA => ∃ H1 s1, Inv X pins σ H1 s1 ∧ TabG H1 P ∧
      wpAny (model X.prog X.w) X.A (pyIter xv) (fun it s2 => ∃ vs, Begun2 X P s1 vs it s2 ∧ (∀ v ∈ vs, pre σ v.1 v.2) ∧ ∀ a s5, Ready X pins σ H1 P (vs.map fun v => g σ v.1 v.2) a s5 → Qg (.ref a) s5) X.xe sA) X.xe s) :
    wpAny (model X.prog X.w) X.A (eval (.GeneratorExp elt [⟨.Tuple [.Name xa pa, .Name xb pb] kt pt, iter, [], 0⟩] scope gpos) X.env) Qg X.xe s := by
  refine wpAny_GeneratorExp_walksQT hr.hd S.co (closure_ok S.free) S.cell S.dot S.loc Sb hab S.kind (by have := hr.dp; omega) ?_ hs
  refine wpAny_mono h (fun xv sA h1 => ?_) (fun _ _ e => e)
  obtain ⟨H1, s1, I1, ⟨ps, hP, ht⟩, hit⟩ := h1
  refine wpAny_mono hit (fun it s2 h2 => ?_) (fun _ _ e => e)
  obtain ⟨vs, ⟨Ia, fp, wr, Pf, Sf, Mid, hp2, t2, rfl, rfl, kp, sz, W, st0, hfp, hwr, hPf⟩, hpre, hQ⟩ := h2
  have tabS : s1.heap.get? P = some { cls := .none, data := .fields ps } := I1.hok P _ hP
  have tabL : P < s1.heap.objs.size := Heap.lt_size tabS
  have tab2 : hp2.get? P = some { cls := .none, data := .fields ps } := kp _ _ tabS
  have cd : PySem.W.CodeHd hp2 c P := TB.code.keeps fun b u e => kp b u (I1.bk b u e)
  have lim : hp2.NoLimit := I1.nolimit.keeps kp
  refine ⟨lim, ?_⟩
  have cont : ∀ (code : Value) (h3 : Heap) (tk : Nat) (ps' : Array Value), Heap.ExtBut P hp2 h3 → hp2.objs.size ≤ h3.objs.size → h3.get? P = some { cls := .none, data := .fields ps' } → (∃ more, ps' = ps ++ more) → TriplesOk ps'.toList →
      wpAny (model X.prog X.w) X.A (builtinsFor X.env.globals X.env.builtins) (fun bi s4 =>
        ∃ I fp wr n0 P0 St0 M0 pz F, Value.ref Ia = .ref I ∧ (∀ B : Around, B.handled = none → WalksU X.prog X.w B I fp wr n0 P0 St0 M0) ∧ (∀ i vals, P0 i vals → ∃ va vb, vals = #[va, vb]) ∧ St0 0 s4.heap ∧ (∀ b ∈ fp, b < s4.heap.objs.size) ∧ s4.heap.NoLimit ∧ cStatics ∉ wr ∧
          (∀ hf : Heap, (∀ b o, s4.heap.get? b = some o → hf.get? b = some o) →
            QuietGenT X.prog X.w (genEnv scope (cloFrom X.env.cells scope.names []) s4.heap.objs.size code bi X.env) xa xb [] elt (List.range s4.heap.objs.size) wr P0 pz F hf) ∧
          (∀ a h5 tk gs, gs.bare = true → s4.heap.objs.size < a → h5.objs.size = a + 1 → (∀ b o, s4.heap.get? b = some o → h5.get? b = some o) →
            WalksS X.prog X.w X.A.in4 a (a :: s4.heap.objs.size :: List.range s4.heap.objs.size) (s4.heap.objs.size :: wr) (GenOnlyQ s4.gens.size) (passing pz n0 0).length
              (fun j y => ∃ i, (passing pz n0 0)[j]? = some i ∧ F i y) (GenAt X.prog X.w X.A.in4 a s4.gens.size s4.heap.objs.size (List.range s4.heap.objs.size) wr pz n0 F) →
            GenAt X.prog X.w X.A.in4 a s4.gens.size s4.heap.objs.size (List.range s4.heap.objs.size) wr pz n0 F 0 { s4 with gens := s4.gens.push gs, toks := tk, heap := h5 } →
            Qg (.ref a) { s4 with gens := s4.gens.push gs, toks := tk, heap := h5 })) X.xe { s1 with heap := h3, toks := tk } := by
    intro code h3 tk ps' hx hsz hP3 hmore ht3
    obtain ⟨bm, ob, e1, e2, e3, e4, e5, e6, e7, e8⟩ := TB.bm
    have kp3 : ∀ b u, b ≠ P → s1.heap.get? b = some u → h3.get? b = some u := fun b u hb e => hx b u hb (kp b u e)
    have ncs : cStatics < s1.heap.objs.size := let ⟨_, hns, _⟩ := I1.nolimit; hns.lt
    have ncP : cStatics ≠ P := fun e => by
      obtain ⟨_, ⟨o', es, ep, ho, hd, _⟩, _⟩ := I1.nolimit
      rw [e, tabS] at ho
      cases ho
      cases hd
    refine wpAny_builtinsFor (m := X.mg) (by rw [I1.ok.glob]; exact ((I1.mod.glob.keeps I1.bk).keeps kp).extBut hx TB.gP) e1 e2 (kp3 _ _ e4 (I1.bk _ _ e5)) e6 e7 e8 ?_
    refine ⟨Ia, fp, wr, vs.length, Pf, Sf, Mid, (fun _ => true), (fun i y => ∃ v, vs[i]? = some v ∧ RelV (g σ v.1 v.2) y), rfl, W, (fun i vals hv => by obtain ⟨_, _, u, z, e, _⟩ := hPf i vals hv; exact ⟨u, z, e⟩), ?_, fun b hb => Nat.lt_of_lt_of_le (hfp b hb).1 hsz, lim.extBut hx ncP, fun z => Nat.lt_irrefl _ (Nat.lt_of_lt_of_le ncs (hwr _ z)), ?_, ?_⟩
    · exact (W X.A hr.hd).frame _ _ _ st0 fun b hb u e => hx b u (hfp b hb).2 e
    · intro hf hkf
      refine ⟨fun B Er i va vb s2 m2 hB hv hn hm hm' hk => ?_, fun B Er i va vb s2 m2 hB hv hp hn hm hm' hk => ?_⟩
      · simp only [List.forIn_nil]
        exact wpAny_pure ⟨rfl, keeps_refl _⟩
      · obtain ⟨v', w', u', z', eq, hv', rv, rw'⟩ := hPf i _ hv
        obtain ⟨rfl, rfl⟩ : va = u' ∧ vb = z' := by simpa using congrArg Array.toList eq
        have ask : Ask X scope P s1 (genEnv scope (cloFrom X.env.cells scope.names []) h3.objs.size code builtinsNs X.env) s2 m2 := by
          refine ⟨rfl, rfl, rfl, rfl, hn, fun b o hb e => ?_, ⟨ps, tabS⟩⟩
          have hl : b < s1.heap.objs.size := Heap.lt_size e
          refine hk b (List.mem_range.mpr (Nat.lt_of_lt_of_le hl (Nat.le_trans sz hsz))) (fun z => ?_) o (hkf b o (kp3 b o hb e))
          exact Nat.lt_irrefl _ (Nat.lt_of_lt_of_le hl (hwr b z))
        exact wpAny_mono (hel pins σ H1 s1 _ B Er s2 m2 v' w' va vb I1 ask hB hm hm' rv rw' (hpre (v', w') (List.mem_of_getElem? hv'))) (fun y s3 r => ⟨⟨(v', w'), hv', r.1⟩, r.2⟩) fun _ _ e => e
    · intro a h5 tk5 gs hgb hag hsz5 hk5 W5 hat
      simp only [all_pass, List.length_range] at W5
      refine hQ a _ ⟨_, _, _, _, _, by rw [List.length_map]; exact W5, hat, fun b hb => ?_, List.mem_cons_self, fun i s9 st => ?_, fun j y hy => ?_, fun s' hm => ?_⟩
      · show b < h5.objs.size
        rcases List.mem_cons.mp hb with z | z
        · rw [z, hsz5]
          exact Nat.lt_succ_self _
        · rcases List.mem_cons.mp z with z | z
          · rw [z, hsz5]
            exact Nat.lt_succ_of_lt hag
          · rw [hsz5]
            exact Nat.lt_succ_of_lt (Nat.lt_trans (List.mem_range.mp z) hag)
      · exact st.1.typeIs
      · obtain ⟨i, hij, v, hv, ry⟩ := hy
        obtain ⟨hj, ej⟩ := List.getElem?_eq_some_iff.mp hij
        rw [List.getElem_range] at ej
        subst ej
        exact ⟨g σ v.1 v.2, by rw [List.getElem?_map, hv]; rfl, ry⟩
      · obtain ⟨more, em⟩ := hmore
        have nwr : ∀ b u, s1.heap.get? b = some u → b ∉ h3.objs.size :: wr := fun b u e hb => by
          have hl := Heap.lt_size e
          rcases List.mem_cons.mp hb with z | z
          · rw [z] at hl
            exact Nat.lt_irrefl _ (Nat.lt_of_lt_of_le hl (Nat.le_trans sz hsz))
          · exact Nat.lt_irrefl _ (Nat.lt_of_lt_of_le hl (hwr b z))
        have J := inv_tab (more := more) (h' := s'.heap) (g' := s'.gens) (d' := s'.drawn) (t' := s'.toks) I1 hP (fun b u hb e => hm.heap b u (nwr b u e) (hk5 b u (kp3 b u hb e)))
          (by rw [← em]; exact hm.heap P _ (nwr P _ tabS) (hk5 P _ hP3)) (AllBare.movedS (I1.bare.push hgb) hm)
        rw [sh_eta s1 s' hm.os] at J
        exact ⟨upd H1 P (.tbl (ps ++ more)), ⟨⟨ps ++ more, upd_same, by rw [← em]; exact ht3⟩, fun b hb => upd_ne hb⟩, J⟩
  cases hf : codeAmong gpos ps.toList with
  | none =>
    refine wpAny_genexprCodeX hcode (cd.code tab2 ht) (cd.tab tab2) hf fun c' h' tk hx hge hlt hco' _ htab' _ => ?_
    obtain ⟨o1, us, f1, tf, fl, tg, inF, tx, tt, op, _, _, _, _, _, _, _, _, _, htr, _⟩ := hco'
    exact cont _ h' tk _ hx (Nat.le_trans hge (Nat.le_of_lt hlt)) htab'.2 ⟨_, rfl⟩ htr
  | some cv =>
    refine wpAny_genexprCode_hit hcode (cd.code tab2 ht) hf ?_
    exact cont cv hp2 t2 ps (Heap.ExtBut.refl _ _) (Nat.le_refl _) tab2 ⟨#[], by simp⟩ ht
/-- a generator expression: it will give the list that the reading hands on -/
structure PGn (X : Cx) (P : Addr) (ge : Expr) (t : L2.St → Hp → (List V → Hp → Prop) → Prop) : Prop where
  run : ∀ (pins : List (Addr × Obj)) (s : Shared) (σ : L2.St) (H : Hp) (R : List V → Hp → Prop) (Qg : Value → Shared → Prop), Inv X pins σ H s → t σ H R →
    (∀ ws H1 a s5, R ws H1 → Ready X pins σ H1 P ws a s5 → Qg (.ref a) s5) → wpAny (model X.prog X.w) X.A (eval ge X.env) Qg X.xe s
/-- over the signs of a text -/
theorem pgn_str {c P : Addr} {elt iter : Expr} {x : Str} {px gpos : Pos} {scope : Scope} {pre : L2.St → V → Prop} {g : L2.St → V → V} {k : Nat} {te : TE}
    (hr : Room k X.A) (TB : TabB X.base X.mg c P) (hcode : X.env.code = .ref c) (S : GenV X.env.scope scope x) (hi : PE X iter te) (hel : Elt1 X scope P x elt pre g) (hs : ∀ v, genFold iter X.env v = pure v) :
    PGn X P (.GeneratorExp elt [⟨.Name x px, iter, [], 0⟩] scope gpos) (fun σ H R => te σ H fun v H1 => ∃ a : Str, v = .str a ∧ TabG H1 P ∧ (∀ c ∈ a.cps.toList, pre σ (.str ⟨#[c]⟩)) ∧ R (a.cps.toList.map fun c => g σ (.str ⟨#[c]⟩)) H1) := by
  refine ⟨fun pins s σ H R Qg I h hQ => gen1 (pins := pins) (σ := σ) hr TB hcode (S.to I) hel hs ?_⟩
  refine thn (hi.run pins s σ H _ I h) fun xv s1 ⟨v, H1, I1, r1, a, ea, hT, hp, q1⟩ => ?_
  subst ea
  obtain ⟨t, rfl⟩ := r1
  refine ⟨H1, s1, I1, hT, wpAny_pyIter_str fun o Sf W hst => ⟨a.cps.toList.map fun c => .str ⟨#[c]⟩, ?_, ?_, fun b s5 hR => ?_⟩⟩
  · obtain ⟨ps, hP, _⟩ := hT
    have tabL : P < s1.heap.objs.size := Heap.lt_size (I1.hok P _ hP)
    refine ⟨s1.heap.objs.size, [s1.heap.objs.size], [s1.heap.objs.size], SignAt a, Sf, s1.heap.push o, s1.toks, rfl, rfl, fun b u e => Heap.get?_push_of_some _ e, ?_, ?_, hst, fun b hb => ?_, fun b hb => ?_, fun i u hu => ?_⟩
    · rw [Heap.size_push]
      exact Nat.le_succ _
    · rw [List.length_map, Array.length_toList]
      exact W
    · rw [List.mem_singleton.mp hb, Heap.size_push]
      exact ⟨Nat.lt_succ_self _, fun z => Nat.ne_of_lt tabL z.symm⟩
    · rw [List.mem_singleton.mp hb]
      exact Nat.le_refl _
    · obtain ⟨cc, tt, hc, rfl⟩ := hu
      refine ⟨.str ⟨#[cc]⟩, ?_, tt, rfl⟩
      rw [List.getElem?_map, Array.getElem?_toList, hc]
      rfl
  · intro v hv
    obtain ⟨cc, hc, rfl⟩ := List.mem_map.mp hv
    exact hp cc hc
  · rw [List.map_map] at hR
    exact hQ _ H1 b s5 q1 hR
/-- over the items of a tuple -/
theorem pgn_tup {c P : Addr} {elt iter : Expr} {x : Str} {px gpos : Pos} {scope : Scope} {pre : L2.St → V → Prop} {g : L2.St → V → V} {k : Nat} {te : TE}
    (hr : Room k X.A) (TB : TabB X.base X.mg c P) (hcode : X.env.code = .ref c) (S : GenV X.env.scope scope x) (hi : PE X iter te) (hel : Elt1 X scope P x elt pre g) (hs : ∀ v, genFold iter X.env v = pure v) :
    PGn X P (.GeneratorExp elt [⟨.Name x px, iter, [], 0⟩] scope gpos) (fun σ H R => te σ H fun v H1 => ∃ (a : Addr) (xs : List V), v = .ref a ∧ SqT X.K H1 a xs ∧ TabG H1 P ∧ (∀ v ∈ xs, pre σ v) ∧ R (xs.map (g σ)) H1) := by
  refine ⟨fun pins s σ H R Qg I h hQ => gen1 (pins := pins) (σ := σ) hr TB hcode (S.to I) hel hs ?_⟩
  refine thn (hi.run pins s σ H _ I h) fun xv s1 ⟨v, H1, I1, r1, a, xs, ea, hX, hT, hp, q1⟩ => ?_
  subst ea
  obtain rfl : xv = Value.ref a := r1
  obtain ⟨its, rv, pt, _⟩ := I1.tuple hX
  obtain ⟨ot, hot, hoc, hod⟩ := _root_.id pt
  have aL : a < s1.heap.objs.size := Heap.lt_size hot
  refine ⟨H1, s1, I1, hT, wpAny_pyIter_tuple pt ⟨xs, ?_, hp, fun b s5 hR => hQ _ H1 b s5 q1 hR⟩⟩
  obtain ⟨ps, hP, _⟩ := hT
  have tabS := I1.hok P _ hP
  have tabL : P < s1.heap.objs.size := Heap.lt_size tabS
  have hn : xs.length = its.toArray.size := by rw [rv.length, List.size_toArray]
  have W := fun (B : Around) (hB : B.handled = none) => Walks.tuple (prog := X.prog) (w := X.w) (A := B) hB s1.heap.objs.size a (Nat.ne_of_lt aL) its.toArray
  rw [← hn] at W
  refine ⟨s1.heap.objs.size, [s1.heap.objs.size, a], [s1.heap.objs.size], _, _, _, s1.toks, rfl, rfl, fun b u e => Heap.get?_push_of_some _ e, ?_, W, ⟨⟨_, Heap.get?_push_size _ rfl, rfl, rfl⟩, ⟨ot, Heap.get?_push_of_some _ hot, hoc, hod⟩⟩, fun b hb => ?_, fun b hb => ?_, fun i u hu => ?_⟩
  · rw [Heap.size_push]
    exact Nat.le_succ _
  · rw [Heap.size_push]
    rcases List.mem_cons.mp hb with z | z
    · rw [z]
      exact ⟨Nat.lt_succ_self _, fun z => Nat.ne_of_lt tabL z.symm⟩
    · rw [List.mem_singleton.mp z]
      refine ⟨Nat.lt_succ_of_lt aL, fun z2 => ?_⟩
      have e2 : s1.heap.get? P = some ot := by rw [← z2]; exact hot
      have e3 := e2.symm.trans tabS
      cases e3
      cases hoc
  · rw [List.mem_singleton.mp hb]
    exact Nat.le_refl _
  · have hu2 : its[i]? = some u := by simpa using hu
    have hi2 : i < its.length := (List.getElem?_eq_some_iff.mp hu2).1
    have hi3 : i < xs.length := by rw [rv.length]; exact hi2
    obtain ⟨u', hu', ru⟩ := rv.get (List.getElem?_eq_getElem hi3)
    rw [hu2] at hu'
    cases hu'
    exact ⟨_, List.getElem?_eq_getElem hi3, ru⟩
/-- over zip of two tuples -/
theorem pgn_zip {c P : Addr} {elt e1 e2 : Expr} {xa xb : Str} {pa pb pt gpos pz pn : Pos} {kt : Nat} {scope : Scope} {pre : L2.St → V → V → Prop} {g : L2.St → V → V → V} {k : Nat} {ta : TA}
    (hr : Room k X.A) (TB : TabB X.base X.mg c P) (hcode : X.env.code = .ref c) (S : GenV X.env.scope scope xa) (Sb : scope.names.lookup xb = some .local) (hab : xa ≠ xb) (hg : Gl X "zip") (hm : X.mg "zip" = none) (ha : PA X [e1, e2] ta) (hel : Elt2 X scope P xa xb elt pre g)
    (hs : ∀ v, genFold (.Call (.Name "zip" pn) [e1, e2] [] pz) X.env v = pure v)
    (he : starEach [e1, e2] X.env = (false, eval e1 X.env) :: starEach [e2] X.env := by rfl) (hpl : (backTo pz (starEach [e2] X.env)).any (·.1) = false := by rfl) :
    PGn X P (.GeneratorExp elt [⟨.Tuple [.Name xa pa, .Name xb pb] kt pt, .Call (.Name "zip" pn) [e1, e2] [] pz, [], 0⟩] scope gpos)
      (fun σ H R => ta σ H fun vs H1 => ∃ (a b : Addr) (xs ys : List V), vs = [.ref a, .ref b] ∧ SqT X.K H1 a xs ∧ SqT X.K H1 b ys ∧ TabG H1 P ∧ (∀ v ∈ xs.zip ys, pre σ v.1 v.2) ∧ R ((xs.zip ys).map fun v => g σ v.1 v.2) H1) := by
  refine ⟨fun pins s σ H R Qg I h hQ => gen2 (pins := pins) (σ := σ) hr TB hcode (S.to I) Sb hab hel hs ?_⟩
  refine Call_ (ld_blt I hg hm PyProof.Rows.boot_zip (PyProof.Rows.callWith_type1 (thn (ha.run pz pins s σ H _ I h) fun us s1 ⟨vs, H1, I1, r1, q1⟩ => ?_) he hpl))
  obtain ⟨a, b, xs, ys, ex, hX, hY, hT, hp, q1⟩ := q1
  subst ex
  obtain ⟨u1, u2, rfl, ra, rb⟩ := vals2 r1
  obtain rfl : u1 = Value.ref a := ra
  obtain rfl : u2 = Value.ref b := rb
  obtain ⟨its, rv, p1, _⟩ := I1.tuple hX
  obtain ⟨jts, rw', p2, _⟩ := I1.tuple hY
  obtain ⟨o1, ho1, oc1, od1⟩ := _root_.id p1
  obtain ⟨o2, ho2, oc2, od2⟩ := _root_.id p2
  have aL : a < s1.heap.objs.size := Heap.lt_size ho1
  have bL : b < s1.heap.objs.size := Heap.lt_size ho2
  refine RZ.call_zipT (show s1.heap.IsTuple a its.toArray from p1) (show s1.heap.IsTuple b jts.toArray from p2) fun h' hz hTI hTO h1 h2 hsz hk => ?_
  refine ⟨H1, s1, I1, hT, wpAny_pyIter_zip hz ⟨xs.zip ys, ?_, hp, fun w s5 hR => hQ _ H1 w s5 q1 hR⟩⟩
  obtain ⟨ps, hP, _⟩ := hT
  have tabS := I1.hok P _ hP
  have tabL : P < s1.heap.objs.size := Heap.lt_size tabS
  have ne1 : a ≠ P := fun z2 => by
    have e2 : s1.heap.get? P = some o1 := by rw [← z2]; exact ho1
    have e3 := e2.symm.trans tabS
    cases e3
    cases oc1
  have ne2 : b ≠ P := fun z2 => by
    have e2 : s1.heap.get? P = some o2 := by rw [← z2]; exact ho2
    have e3 := e2.symm.trans tabS
    cases e3
    cases oc2
  have W := fun (B : Around) (hB : B.handled = none) => (WalksT.zipD2 (prog := X.prog) (w := X.w) (A := B)
    (zip_sep2 (N := s1.heap.objs.size) (fp1 := [a]) (fp2 := [b]) (fun c hc => by rw [List.mem_singleton.mp hc]; exact aL) (fun c hc => by rw [List.mem_singleton.mp hc]; exact bL))
    (Draws.tuple (A := B.in1) hB s1.heap.objs.size a (Nat.ne_of_lt aL) its.toArray) (Draws.tuple (A := B.in1) hB (s1.heap.objs.size + 1) b (Nat.ne_of_lt (Nat.lt_succ_of_lt bL)) jts.toArray)).toU
  have hn : (xs.zip ys).length = min its.toArray.size jts.toArray.size := by rw [List.length_zip, rv.length, rw'.length, List.size_toArray, List.size_toArray]
  rw [← hn] at W
  refine ⟨_, _, _, _, _, _, h', s1.toks, rfl, rfl, hk, by rw [hsz]; exact Nat.le_add_right _ _, W, ⟨hz, hTI, ⟨_, _, hTO⟩, ⟨h1, ⟨o1, hk _ _ ho1, oc1, od1⟩⟩, ⟨h2, ⟨o2, hk _ _ ho2, oc2, od2⟩⟩⟩, fun d hd => ?_, fun d hd => ?_, fun i us hu => ?_⟩
  · rw [hsz]
    have hd2 : d = s1.heap.objs.size + 4 ∨ d = s1.heap.objs.size + 2 ∨ d = s1.heap.objs.size + 3 ∨ d = s1.heap.objs.size ∨ d = a ∨ d = s1.heap.objs.size + 1 ∨ d = b := by simpa using hd
    rcases hd2 with z | z | z | z | z | z | z
    · rw [z]; exact ⟨Nat.add_lt_add_left (by decide) _, fun q => Nat.lt_irrefl _ (Nat.lt_of_le_of_lt (Nat.le_add_right _ 4) (q ▸ tabL))⟩
    · rw [z]; exact ⟨Nat.add_lt_add_left (by decide) _, fun q => Nat.lt_irrefl _ (Nat.lt_of_le_of_lt (Nat.le_add_right _ 2) (q ▸ tabL))⟩
    · rw [z]; exact ⟨Nat.add_lt_add_left (by decide) _, fun q => Nat.lt_irrefl _ (Nat.lt_of_le_of_lt (Nat.le_add_right _ 3) (q ▸ tabL))⟩
    · rw [z]; exact ⟨Nat.lt_add_of_pos_right (by decide), fun q => Nat.lt_irrefl _ (q ▸ tabL)⟩
    · rw [z]; exact ⟨Nat.lt_of_lt_of_le aL (Nat.le_add_right _ 5), ne1⟩
    · rw [z]; exact ⟨Nat.add_lt_add_left (by decide) _, fun q => Nat.lt_irrefl _ (Nat.lt_of_le_of_lt (Nat.le_add_right _ 1) (q ▸ tabL))⟩
    · rw [z]; exact ⟨Nat.lt_of_lt_of_le bL (Nat.le_add_right _ 5), ne2⟩
  · have hd2 : d = s1.heap.objs.size + 4 ∨ d = s1.heap.objs.size + 3 ∨ d = s1.heap.objs.size ∨ d = s1.heap.objs.size + 1 := by simpa using hd
    rcases hd2 with z | z | z | z
    · rw [z]; exact Nat.le_add_right _ _
    · rw [z]; exact Nat.le_add_right _ _
    · rw [z]; exact Nat.le_refl _
    · rw [z]; exact Nat.le_add_right _ _
  · obtain ⟨x1, x2, hx1, hx2, rfl⟩ := hu
    have hu2 : its[i]? = some x1 := by simpa using hx1
    have hw2 : jts[i]? = some x2 := by simpa using hx2
    have hi3 : i < xs.length := by rw [rv.length]; exact (List.getElem?_eq_some_iff.mp hu2).1
    have hj3 : i < ys.length := by rw [rw'.length]; exact (List.getElem?_eq_some_iff.mp hw2).1
    obtain ⟨u', hu', ru⟩ := rv.get (List.getElem?_eq_getElem hi3)
    rw [hu2] at hu'
    cases hu'
    obtain ⟨w', hw', rw2⟩ := rw'.get (List.getElem?_eq_getElem hj3)
    rw [hw2] at hw'
    cases hw'
    exact ⟨xs[i], ys[i], _, _, rfl, by rw [List.getElem?_zip_eq_some]; exact ⟨List.getElem?_eq_getElem hi3, List.getElem?_eq_getElem hj3⟩, ru, rw2⟩
/-- all(..) of a generator expression of truth values -/
theorem pe_allG {P : Addr} {ge : Expr} {t : L2.St → Hp → (List V → Hp → Prop) → Prop} {p pos : Pos} (hg : Gl X "all") (hm : X.mg "all" = none) (hb : bootBuiltins "all" = some (.builtin "all")) (G : PGn X P ge t)
    (he : starEach [ge] X.env = (false, eval ge X.env) :: starEach [] X.env := by rfl) :
    PE X (.Call (.Name "all" p) [ge] [] pos) (fun σ H Q => t σ H fun ws H1 => ∃ bs : List Bool, ws = bs.map V.bl ∧ ∀ H2, Tabbed P H1 H2 → Q (.bl (bs.all _root_.id)) H2) := by
  refine ⟨fun pins s σ H Q I h => ?_⟩
  refine wpAny_Call_Name_kw (ld_blt I hg hm hb ?_)
  refine PyProof.Rows.callWith_builtin1 ?_ he (by rfl)
  rw [he]
  refine Calls.spliced_cons (G.run pins s σ H _ _ I h fun ws H1 a s5 hR hG => ?_)
  obtain ⟨fp, wr, Gr, F, Sf, W, hst, hfp, hgm, hty, hF, hI⟩ := hG
  obtain ⟨bs, rfl, q⟩ := hR
  refine Calls.spliced_nil ?_
  refine call_all_walkS (W.in4_1.self 0 _ _ _ hst ⟨a, fp, wr, Gr, _, F, Sf, fun j => bs.getD j false, rfl, W.in4_1, hst, ?_, fun s' hmv => ?_⟩)
  · intro j y sj Qj Ej hy hQj
    obtain ⟨v, hv, rv⟩ := hF j y hy
    rw [List.getElem?_map] at hv
    cases hb : bs[j]? with
    | none => rw [hb] at hv; cases hv
    | some b =>
      rw [hb] at hv
      cases hv
      obtain rfl : y = Value.bool b := rv
      have e : bs.getD j false = b := by rw [List.getD_eq_getElem?_getD, hb]; rfl
      have hQ2 : Qj (bs.getD j false) sj := hQj
      rw [e] at hQ2
      exact wpAny_truthy_bool hQ2
  · obtain ⟨H2, hT, J⟩ := hI s' hmv
    refine ⟨.bl _, H2, J, rfl, ?_⟩
    have e : (List.range (bs.map V.bl).length).all (fun j => bs.getD j false) = bs.all _root_.id := by
      rw [List.length_map, Bool.eq_iff_iff, List.all_eq_true, List.all_eq_true]
      constructor
      · intro hh b hb
        obtain ⟨j, hj, ej⟩ := List.getElem_of_mem hb
        have q2 := hh j (List.mem_range.mpr hj)
        rw [List.getD_eq_getElem?_getD, List.getElem?_eq_getElem hj] at q2
        rw [← ej]
        exact q2
      · intro hh j hj
        have hj' := List.mem_range.mp hj
        rw [List.getD_eq_getElem?_getD, List.getElem?_eq_getElem hj']
        exact hh _ (List.getElem_mem hj')
    rw [e]
    exact q H2 hT
/-- tuple(..) of a generator expression -/
theorem pe_tupG {P : Addr} {ge : Expr} {t : L2.St → Hp → (List V → Hp → Prop) → Prop} {p pos : Pos} (hg : Gl X "tuple") (hm : X.mg "tuple" = none) (hb : bootBuiltins "tuple" = some (.type "tuple")) (G : PGn X P ge t)
    (he : starEach [ge] X.env = (false, eval ge X.env) :: starEach [] X.env := by rfl) :
    PE X (.Call (.Name "tuple" p) [ge] [] pos) (fun σ H Q => t σ H fun ws H1 => ws.length ≤ sizeLine ∧ ∀ H2 d, Tabbed P H1 H2 → H2 d = none → Q (.ref d) (upd H2 d (.tup ws))) := by
  refine ⟨fun pins s σ H Q I h => ?_⟩
  refine wpAny_Call_Name_kw (ld_blt I hg hm hb ?_)
  refine PyProof.Rows.callWith_type1 ?_ he (by rfl)
  rw [he]
  refine Calls.spliced_cons (G.run pins s σ H _ _ I h fun ws H1 a s5 hR hG => ?_)
  obtain ⟨fp, wr, Gr, F, Sf, W, hst, hfp, hgm, hty, hF, hI⟩ := hG
  obtain ⟨hl, q⟩ := hR
  refine Calls.spliced_nil ?_
  refine call_tuple_gen W.in4_3 hty hst hfp hgm (fun s' acc hmv hacc => ?_) hl
  obtain ⟨H2, hT, J⟩ := hI s' hmv
  have rel : Vals ws acc.toList := by
    have key : ∀ (ws : List V) (us : List Value), ws.length = us.length → (∀ (j : Nat) (v : V) (u : Value), ws[j]? = some v → us[j]? = some u → RelV v u) → Vals ws us := by
      intro ws
      induction ws with
      | nil =>
        intro us hl _
        cases us with
        | nil => exact .nil
        | cons u r => cases hl
      | cons v r ih =>
        intro us hl hk
        cases us with
        | nil => cases hl
        | cons u us =>
          refine .cons (hk 0 v u rfl rfl) (ih us (by simpa using hl) fun j v' u' h1 h2 => hk (j + 1) v' u' h1 h2)
    refine key ws acc.toList (hacc.1.symm.trans Array.length_toList.symm) fun j v u h1 h2 => ?_
    have h3 : acc[j]? = some u := by rw [← Array.getElem?_toList]; exact h2
    obtain ⟨v', hv', rv⟩ := hF j u (hacc.2 j u h3)
    rw [h1] at hv'
    cases hv'
    exact rv
  have I2 : Inv X pins σ (upd H2 s'.heap.objs.size (.tup ws)) { s' with heap := s'.heap.push { cls := .type "tuple", data := .seq acc } } :=
    J.laid (t' := s'.toks) (fun b o e => Heap.get?_push_of_some _ e) (Nat.le_refl _) (show ObjOk X.prog X.w _ _ _ (.tup ws) from ⟨hl, acc.toList, rel, by rw [Array.toArray_toList]; exact IsTup.new _ _⟩)
  exact ⟨.ref s'.heap.objs.size, _, I2, rfl, q H2 _ hT (J.hok.fresh (Nat.le_refl _))⟩
end
end GX

set_option maxHeartbeats 2000000
namespace GX
open PySem PySem.Spec PyProof.Rows L2 GxR
section
variable {X : Cx} {scope : Scope} {P : Addr} {pins : List (Addr × Obj)} {σ : L2.St} {H : Hp} {s1 s2 : Shared} {cenv : Env} {m2 : Str → Option Value} {B : Around} {Er : Value → Shared → Prop} {Q : Value → Shared → Prop}
/-- a name of the generator's own -/
theorem own_name {x : Str} {u : Value} {p : Pos} (a : Ask X scope P s1 cenv s2 m2) (hk : scope.kind = .function) (hl : scope.names.lookup x = some .local) (hm : m2 x = some u) (h : Q u s2) (hd : (x == ("__debug__" : Str)) = false := by decide) :
    wpAny (model X.prog X.w) B (eval (.Name x p) cenv) Q Er s2 :=
  wpAny_Name (wpAny_loadName_local (by rw [a.sc]; exact hk) (show cenv.scope.names.lookup x = some .local by rw [a.sc]; exact hl) a.ns hm h) hd
/-- what is still there -/
theorem Ask.step (a : Ask X scope P s1 cenv s2 m2) {s3 : Shared} (k : Keeps s2 s3) : Ask X scope P s1 cenv s3 m2 := by
  obtain ⟨h', tk, rfl, hk⟩ := k
  exact ⟨a.sc, a.gl, a.bl, a.ce, a.ns.keeps hk, fun b o hb e => hk b o (a.kp b o hb e), a.tb⟩
theorem Ask.mod (a : Ask X scope P s1 cenv s2 m2) (I : Inv X pins σ H s1) (gP : mainGlobals ≠ P) : s2.heap.Ns cenv.globals X.mg := by
  rw [a.gl, I.ok.glob]
  exact (I.mod.glob.keeps I.bk).at' fun o e => a.kp _ o gP e
/-- a module's name -/
theorem glob_name {x : Str} {u : Value} {p : Pos} (a : Ask X scope P s1 cenv s2 m2) (I : Inv X pins σ H s1) (gP : mainGlobals ≠ P) (hk : scope.kind = .function) (hl : scope.names.lookup x = some .globalImplicit) (hm : X.mg x = some u) (h : Q u s2) (hd : (x == ("__debug__" : Str)) = false := by decide) :
    wpAny (model X.prog X.w) B (eval (.Name x p) cenv) Q Er s2 :=
  Calls.Name_function_global (by rw [a.sc]; exact hk) (show cenv.scope.names.lookup x = some .globalImplicit by rw [a.sc]; exact hl) (Calls.loadGlobal_global (a.mod I gP) hm h) hd
/-- a built-in name -/
theorem blt_name {x : Str} {u : Value} {p : Pos} (a : Ask X scope P s1 cenv s2 m2) (I : Inv X pins σ H s1) (gP : mainGlobals ≠ P) (hk : scope.kind = .function) (hl : scope.names.lookup x = some .globalImplicit) (hm : X.mg x = none) (hv : bootBuiltins x = some u) (h : Q u s2)
    (hn : x ≠ "__name__" := by decide) (hd : (x == ("__debug__" : Str)) = false := by decide) : wpAny (model X.prog X.w) B (eval (.Name x p) cenv) Q Er s2 := by
  obtain ⟨mb, h1, h2⟩ := I.mod.blt
  have h3 := h1.keeps I.bk
  have nP : builtinsNs ≠ P := fun z => by
    obtain ⟨ps, hps⟩ := a.tb
    obtain ⟨o, es, ep, ho, hdd, _⟩ := h3
    rw [z, hps] at ho
    cases ho
    cases hdd
  have h4 : s2.heap.Ns cenv.builtins mb := by
    rw [a.bl]
    exact h3.at' fun o e => a.kp _ o nP e
  exact Calls.Name_function_global (by rw [a.sc]; exact hk) (show cenv.scope.names.lookup x = some .globalImplicit by rw [a.sc]; exact hl) (Calls.loadGlobal_builtin (a.mod I gP) hm h4 ((h2 x hn).trans hv) h) hd
/-- a captured name of the def: it stands in the def's slot i -/
theorem free_name {y : Str} {i : Nat} {v : V} {p : Pos} (a : Ask X scope P s1 cenv s2 m2) (I : Inv X pins σ H s1) (hk : scope.kind = .function) (hl : scope.names.lookup y = some .free) (hN : X.N[i]? = some y) (hc : X.env.scope.names.lookup y = some .cell) (hσ : σ[i]? = some (some v))
    (h : ∀ u, RelV v u → Q u s2) (hd : (y == ("__debug__" : Str)) = false := by decide) (hcd : (y == ("__classdict__" : Str)) = false := by decide) : wpAny (model X.prog X.w) B (eval (.Name y p) cenv) Q Er s2 := by
  obtain ⟨m, hn, hlk⟩ := I.loc
  obtain ⟨u, ru, lk⟩ := hlk i y v hN hσ (.inr (.inl hc))
  rcases lk with ⟨k, _⟩ | ⟨_, c, hcl, hcell⟩
  · have k2 : X.env.scope.names.lookup y = some .local := k
    rw [hc] at k2
    cases k2
  · obtain ⟨o, ho, hdt⟩ := hcell
    have ncP : c ≠ P := fun z => by
      obtain ⟨ps, hps⟩ := a.tb
      rw [z, hps] at ho
      cases ho
      cases hdt
    have mem : (y, (X.env.cells.lookup y).getD 0) ∈ cenv.cells := by
      rw [a.ce]
      exact cloFrom_has (PySem.mem_of_lookup hl)
    have lkc : cenv.cells.lookup y = some c := by
      cases e : cenv.cells.lookup y with
      | none =>
        have := List.lookup_eq_none_iff.mp e _ mem
        simp at this
      | some c' =>
        have h1 := PySem.mem_of_lookup e
        rw [a.ce] at h1
        rcases cloFrom_mem h1 with z | ⟨_, z⟩
        · cases z
        · rw [z, hcl]
          rfl
    refine wpAny_Name (wpAny_loadName_free (by rw [a.sc]; exact hk) (show cenv.scope.names.lookup y = some .free by rw [a.sc]; exact hl) lkc ⟨o, a.kp _ o ncP ho, hdt⟩ (h u ru) hcd) hd
end
/-- x in G, G a text of the module -/
def inG (z : Str) : V → V
  | .str a => .bl (a.cps.toList.all fun c => decide (c ∈ z.cps.toList))
  | v => v
theorem elt_inG {X : Cx} {scope : Scope} {P : Addr} {x gn : Str} {z : Str} {t : Tok} {p1 p2 p3 : Pos} (gP : mainGlobals ≠ P) (hk : scope.kind = .function) (hl : scope.names.lookup x = some .local) (hg : scope.names.lookup gn = some .globalImplicit) (hm : X.mg gn = some (.str z t))
    (hd : (x == ("__debug__" : Str)) = false := by decide) (hd2 : (gn == ("__debug__" : Str)) = false := by decide) :
    Elt1 X scope P x (.Compare (.Name x p1) [.In] [.Name gn p2] p3) (fun _ v => ∃ c, v = .str ⟨#[c]⟩) (fun _ v => inG z v) := by
  intro pins σ H s1 cenv B Er s2 m2 v u I a hB hx rv hp
  obtain ⟨c, rfl⟩ := hp
  obtain ⟨t', rfl⟩ := rv
  refine wpAny_Compare1 (own_name a hk hl hx (glob_name a I gP hk hg hm ?_ hd2) hd)
  refine PyProof.Rows.in_str ⟨?_, keeps_refl _⟩
  show Value.bool _ = Value.bool _
  rw [PySem.StrLaws.found_one z c]
  simp
def add2 : V → V → V
  | .int i, .int j => .int (i + j)
  | v, _ => v
def sub2 : V → V → V
  | .int i, .int j => .int (i - j)
  | v, _ => v
def le2 : V → V → V
  | .int i, .int j => .bl (decide (i ≤ j))
  | v, _ => v
def min2 : V → V → V
  | .int i, .int j => .int (if j < i then j else i)
  | v, _ => v
/-- x * y, y a captured name in the slot i -/
def mulAt (i : Nat) (σ : L2.St) : V → V
  | .int a => (match σ[i]? with
    | some (some (.int b)) => .int (a * b)
    | _ => .int a)
  | v => v
theorem elt_mul {X : Cx} {scope : Scope} {P : Addr} {x y : Str} {i : Nat} {p1 p2 p3 : Pos} (hk : scope.kind = .function) (hl : scope.names.lookup x = some .local) (hf : scope.names.lookup y = some .free) (hN : X.N[i]? = some y) (hc : X.env.scope.names.lookup y = some .cell)
    (hd : (x == ("__debug__" : Str)) = false := by decide) (hd2 : (y == ("__debug__" : Str)) = false := by decide) (hcd : (y == ("__classdict__" : Str)) = false := by decide) :
    Elt1 X scope P x (.BinOp (.Name x p1) .Mult (.Name y p2) p3) (fun σ v => ∃ a b : Int, v = .int a ∧ σ[i]? = some (some (.int b)) ∧ CMul a b) (fun σ v => mulAt i σ v) := by
  intro pins σ H s1 cenv B Er s2 m2 v u I a hB hx rv hp
  obtain ⟨m, n, rfl, hσ, hm⟩ := hp
  obtain ⟨t, rfl⟩ := rv
  refine wpAny_BinOp (own_name a hk hl hx (free_name a I hk hf hN hc hσ (fun z rz => ?_) hd2 hcd) hd)
  obtain ⟨t', rfl⟩ := rz
  refine mul_int ⟨?_, keeps_tok _ _⟩ hm.ok
  have e : mulAt i σ (V.int m) = V.int (m * n) := by
    unfold mulAt
    rw [hσ]
  show RelV (mulAt i σ (V.int m)) _
  rw [e]
  exact ⟨_, rfl⟩
def Ints2 (v w : V) : Prop := ∃ i j : Int, v = .int i ∧ w = .int j
section
variable {X : Cx} {scope : Scope} {P : Addr} {xa xb : Str} {p1 p2 p3 p4 : Pos} (hk : scope.kind = .function) (hl : scope.names.lookup xa = some .local) (hl2 : scope.names.lookup xb = some .local)
    (hd : (xa == ("__debug__" : Str)) = false := by decide) (hd2 : (xb == ("__debug__" : Str)) = false := by decide)
include hk hl hl2 hd hd2
theorem elt_add : Elt2 X scope P xa xb (.BinOp (.Name xa p1) .Add (.Name xb p2) p3) (fun _ v w => Ints2 v w) (fun _ v w => add2 v w) := by
  intro pins σ H s1 cenv B Er s2 m2 v w u z I a hB hx hy rv rw' hp
  obtain ⟨i, j, rfl, rfl⟩ := hp
  obtain ⟨t, rfl⟩ := rv
  obtain ⟨t', rfl⟩ := rw'
  exact wpAny_BinOp (own_name a hk hl hx (own_name a hk hl2 hy (add_int ⟨⟨_, rfl⟩, keeps_tok _ _⟩) hd2) hd)
theorem elt_sub : Elt2 X scope P xa xb (.BinOp (.Name xa p1) .Sub (.Name xb p2) p3) (fun _ v w => Ints2 v w) (fun _ v w => sub2 v w) := by
  intro pins σ H s1 cenv B Er s2 m2 v w u z I a hB hx hy rv rw' hp
  obtain ⟨i, j, rfl, rfl⟩ := hp
  obtain ⟨t, rfl⟩ := rv
  obtain ⟨t', rfl⟩ := rw'
  exact wpAny_BinOp (own_name a hk hl hx (own_name a hk hl2 hy (sub_int ⟨⟨_, rfl⟩, keeps_tok _ _⟩) hd2) hd)
theorem elt_le : Elt2 X scope P xa xb (.Compare (.Name xa p1) [.LtE] [.Name xb p2] p3) (fun _ v w => Ints2 v w) (fun _ v w => le2 v w) := by
  intro pins σ H s1 cenv B Er s2 m2 v w u z I a hB hx hy rv rw' hp
  obtain ⟨i, j, rfl, rfl⟩ := hp
  obtain ⟨t, rfl⟩ := rv
  obtain ⟨t', rfl⟩ := rw'
  exact wpAny_Compare1 (own_name a hk hl hx (own_name a hk hl2 hy (le_int ⟨rfl, keeps_refl _⟩) hd2) hd)
theorem elt_min (gP : mainGlobals ≠ P) (hg : scope.names.lookup ("min" : Str) = some .globalImplicit) (hm : X.mg "min" = none) :
    Elt2 X scope P xa xb (.Call (.Name "min" p1) [.Name xa p2, .Name xb p3] [] p4) (fun _ v w => Ints2 v w) (fun _ v w => min2 v w) := by
  intro pins σ H s1 cenv B Er s2 m2 v w u z I a hB hx hy rv rw' hp
  obtain ⟨i, j, rfl, rfl⟩ := hp
  obtain ⟨t, rfl⟩ := rv
  obtain ⟨t', rfl⟩ := rw'
  refine wpAny_Call_Name_kw (blt_name (u := .builtin "min") a I gP hk hg hm (by decide +kernel) ?_)
  refine PyProof.Rows.callWith_builtin1 ?_ rfl rfl
  refine PyProof.Rows.args_cons (own_name a hk hl hx ?_ hd) rfl
  refine PyProof.Rows.args_cons (own_name a hk hl2 hy ?_ hd2) rfl
  refine PyProof.Rows.args_nil ?_
  refine min_two_ints hB fun h' tk kp => ⟨?_, ⟨h', tk, rfl, kp⟩⟩
  show ∃ t0, _ = Value.int (if j < i then j else i) t0
  by_cases hj : j < i
  · rw [if_pos hj, if_pos hj]
    exact ⟨_, rfl⟩
  · rw [if_neg hj, if_neg hj]
    exact ⟨_, rfl⟩
end
end GX

namespace My
open PySem PySem.Spec PyProof.Rows L2 GX GxR
/-! heaps -/
/-- all that was tracked outside of S is as it was -/
def Kp (S : List Addr) (H H' : Hp) : Prop := ∀ x o, x ∉ S → H x = some o → H' x = some o
theorem Kp.refl (S : List Addr) (H : Hp) : Kp S H H := fun _ _ _ h => h
theorem Kp.trans {S : List Addr} {H H1 H2 : Hp} (a : Kp S H H1) (b : Kp S H1 H2) : Kp S H H2 := fun x o n h => b x o n (a x o n h)
theorem Kp.mono {S T : List Addr} {H H' : Hp} (a : Kp S H H') (h : ∀ x ∈ S, x ∈ T) : Kp T H H' := fun x o n e => a x o (fun z => n (h x z)) e
theorem Same.kp {H H' : Hp} (S : List Addr) (a : Same H H') : Kp S H H' := fun x o _ h => a x o h
theorem Kp.seq {K : PySem.W.Frag} {S : List Addr} {H H' : Hp} {a : Addr} {xs : List V} (e : Kp S H H') (h : SqL K H a xs) (n : a ∉ S) : SqL K H' a xs := by
  rcases h with (h | ⟨o, h⟩) | h
  · exact .inl (.inl (e _ _ n h))
  · exact .inl (.inr ⟨o, e _ _ n h⟩)
  · exact .inr h
theorem kp_upd {S : List Addr} {H : Hp} {p : Addr} {o : HO} (h : p ∈ S) : Kp S H (upd H p o) := fun b x n e => by
  rw [upd_ne (fun z => n (by rw [z]; exact h))]
  exact e
theorem same_upd {H : Hp} {p : Addr} {o : HO} (h : H p = none) : Same H (upd H p o) := fun b x e => by
  rw [upd_ne (ne_of_none e h)]
  exact e
theorem iteJ {c A B R : Prop} [Decidable c] (h1 : c → R → A) (h2 : ¬ c → R → B) (r : R) : if c then A else B := by
  by_cases h : c
  · rw [if_pos h]
    exact h1 h r
  · rw [if_neg h]
    exact h2 h r
/-- the built-in names that the text uses -/
structure Txt (mg : Str → Option Value) : Prop where
  len : mg "len" = none
  abs : mg "abs" = none
  isi : mg "isinstance" = none
  lst : mg "list" = none
  tup : mg "tuple" = none
  zip : mg "zip" = none
  all : mg "all" = none
  str : mg "str" = none
  int : mg "int" = none
  bool : mg "bool" = none
  max : mg "max" = none
  min : mg "min" = none
  range : mg "range" = none
/-- a drawing box: what is left of its digits, its mixed number, how often it was asked (at most c) -/
def BoxV (xs : List V) (c : Int) : Prop := ∃ d m t : Int, xs = [.int d, .int m, .int t] ∧ 0 ≤ d ∧ 0 ≤ m ∧ m < 2147483629 ∧ 0 ≤ t ∧ t ≤ c
def BoxAt (H : Hp) (b : Addr) (c : Int) : Prop := ∃ xs, H b = some (.lst xs) ∧ BoxV xs c
def spBox (K : PySem.W.Frag) : Sp := fun vs H Q _ => ∃ (a : Addr) (ns : List Int) (k : Nat), vs = [.ref a, .int (k : Int)] ∧ SqL K H a (ns.map V.int) ∧ k ≤ 1000 ∧
  ∀ p xs, H p = none → BoxV xs 0 → Q (.ref p) (upd H p (.lst xs))
def spTake : Sp := fun vs H Q _ => ∃ (b : Addr) (c many : Int), vs = [.ref b, .int many] ∧ BoxAt H b c ∧ 0 < many ∧ many < 1073741824 ∧ c ≤ 1000000000 ∧
  ∀ r H', 0 ≤ r → r < many → Kp [b] H H' → BoxAt H' b (c + 1) → Q (.int r) H'
theorem walk_zipT {K : PySem.W.Frag} {a b : Addr} {xs ys : List V} {n : Nat} (hn : n = min xs.length ys.length) : Walk (RZ.ItzT K a b) n (fun H => SqT K H a xs ∧ SqT K H b ys) (YPair (fun i => xs[i]?) (fun i => ys[i]?)) := by
  subst hn
  refine ⟨fun i _ hi q => ?_, fun _ q => ⟨xs, ys, q.1, q.2, by omega⟩, fun i H v H' _ q y => ?_⟩
  · have h1 : i < xs.length := by omega
    have h2 : i < ys.length := by omega
    exact ⟨xs, ys, xs[i], ys[i], q.1, q.2, by simp [h1], by simp [h2]⟩
  · obtain ⟨T, x, z, h1, h2, h3, h4, h5⟩ := y
    exact ⟨T, x, z, h1, h2, h3, h4 xs q.1, h5 ys q.2⟩
/-! alike -/
def Leaf (x y : V) : Prop := (∃ b, x = .bl b ∧ y = .bl b) ∨ (∃ i, x = .int i ∧ y = .int i) ∨ (∃ z, x = .str z ∧ y = .str z) ∨ (x = .non ∧ y = .non)
def Al (H : Hp) : Nat → V → V → Prop
  | 0, x, y => Leaf x y
  | n + 1, x, y => Leaf x y ∨ ∃ (a b : Addr) (xs ys : List V), x = .ref a ∧ y = .ref b ∧ ((H a = some (.lst xs) ∧ H b = some (.lst ys)) ∨ (H a = some (.tup xs) ∧ H b = some (.tup ys))) ∧ xs.length = ys.length ∧ xs.length < 100000 ∧
      ∀ (i : Nat) (x y : V), xs[i]? = some x → ys[i]? = some y → Al H n x y
theorem Al.leaf {H : Hp} {x y : V} (h : Leaf x y) : ∀ n, Al H n x y
  | 0 => h
  | _ + 1 => .inl h
theorem Al.same {H H' : Hp} (e : Same H H') : ∀ (n : Nat) (x y : V), Al H n x y → Al H' n x y
  | 0, _, _, h => h
  | n + 1, x, y, h => by
    rcases h with h | ⟨a, b, xs, ys, e1, e2, h, hl, hl2, k⟩
    · exact .inl h
    · refine .inr ⟨a, b, xs, ys, e1, e2, ?_, hl, hl2, fun i x y h1 h2 => Al.same e n x y (k i x y h1 h2)⟩
      rcases h with ⟨h1, h2⟩ | ⟨h1, h2⟩
      · exact .inl ⟨e _ _ h1, e _ _ h2⟩
      · exact .inr ⟨e _ _ h1, e _ _ h2⟩
theorem kany {K : PySem.W.Frag} {t : String} {b1 b2 : Bool} (h1 : kitB t "list" = some b1) (h2 : kitB t "tuple" = some b2) : PySem.W.kitAny K (.type t) [.type "list", .type "tuple"] = some (b1 || b2) := by
  unfold PySem.W.kitAny
  rw [kit_ty h1]
  cases b1 with
  | true => rfl
  | false =>
    show PySem.W.kitAny K (.type t) [.type "tuple"] = _
    unfold PySem.W.kitAny
    rw [kit_ty h2]
    cases b2 <;> rfl
theorem pairT : Paired ClsV [V.ty "list", V.ty "tuple"] [Value.type "list", Value.type "tuple"] := .cons (.ty _) (.cons (.ty _) .nil)
def spAlike (n : Nat) : Sp := fun vs H Q _ => ∃ x y : V, vs = [x, y] ∧ Al H n x y ∧ ∀ H', Same H H' → Q (.bl true) H'
section
variable {X : Cx}
theorem pe_isT {e : Expr} {te : TE} {p1 p2 p3 p4 p5 : Pos} {kk : Nat} (T : Txt X.mg) (g1 : Gl X "isinstance") (g2 : Gl X "list") (g3 : Gl X "tuple") (he : PE X e te)
    (h1 : starEach [e, .Tuple [.Name "list" p2, .Name "tuple" p3] kk p4] X.env = (false, eval e X.env) :: starEach [.Tuple [.Name "list" p2, .Name "tuple" p3] kk p4] X.env := by rfl) :
    PE X (.Call (.Name "isinstance" p1) [e, .Tuple [.Name "list" p2, .Name "tuple" p3] kk p4] [] p5) (tCB (rIsiT X.K) (tCons te (tCons (tTup (tCons (tC (.ty "list")) (tCons (tC (.ty "tuple")) tNil))) tNil))) :=
  pe_callB call_isiT g1 T.isi (by decide +kernel) (pa_cons he (pa_cons (pe_tup (pa_cons (pe_bltn g2 T.lst (by decide +kernel) rfl) (pa_cons (pe_bltn g3 T.tup (by decide +kernel) rfl) pa_nil))) pa_nil) h1) (by decide) (by decide) h1
theorem pe_isi {e : Expr} {te : TE} {x : Str} {c : String} {p1 p2 p5 : Pos} (T : Txt X.mg) (g1 : Gl X "isinstance") (g2 : Gl X x) (m2 : X.mg x = none) (b2 : bootBuiltins x = some (.type c)) (he : PE X e te)
    (hn : x ≠ "__name__" := by decide) (hd : (x == ("__debug__" : Str)) = false := by decide)
    (h1 : starEach [e, .Name x p2] X.env = (false, eval e X.env) :: starEach [.Name x p2] X.env := by rfl) :
    PE X (.Call (.Name "isinstance" p1) [e, .Name x p2] [] p5) (tCB (rIsi X.K) (tCons te (tCons (tC (.ty c)) tNil))) :=
  pe_callB call_isi g1 T.isi (by decide +kernel) (pa_cons he (pa_cons (pe_bltn g2 m2 b2 rfl hn hd) pa_nil) h1) (by decide) (by decide) h1
theorem bt_list : bootBuiltins "list" = some (.type "list") := by decide +kernel
theorem bt_tuple : bootBuiltins "tuple" = some (.type "tuple") := by decide +kernel
theorem bt_str : bootBuiltins "str" = some (.type "str") := by decide +kernel
theorem bt_int : bootBuiltins "int" = some (.type "int") := by decide +kernel
theorem bt_bool : bootBuiltins "bool" = some (.type "bool") := by decide +kernel
end
theorem kB1 : kitB "int" "list" = some false := by decide +kernel
theorem kB2 : kitB "int" "tuple" = some false := by decide +kernel
theorem kB3 : kitB "bool" "list" = some false := by decide +kernel
theorem kB4 : kitB "bool" "tuple" = some false := by decide +kernel
theorem kB5 : kitB "str" "list" = some false := by decide +kernel
theorem kB6 : kitB "str" "tuple" = some false := by decide +kernel
theorem kB7 : kitB "NoneType" "list" = some false := by decide +kernel
theorem kB8 : kitB "NoneType" "tuple" = some false := by decide +kernel
theorem kB9 : kitB "list" "list" = some true := by decide +kernel
theorem kB10 : kitB "list" "tuple" = some false := by decide +kernel
theorem kB11 : kitB "tuple" "list" = some false := by decide +kernel
theorem kB12 : kitB "tuple" "tuple" = some true := by decide +kernel
theorem BoxAt.same {H H' : Hp} {b : Addr} {c : Int} (e : Same H H') (h : BoxAt H b c) : BoxAt H' b c := by
  obtain ⟨xs, h1, h2⟩ := h
  exact ⟨xs, e _ _ h1, h2⟩
theorem BoxAt.kp {S : List Addr} {H H' : Hp} {b : Addr} {c : Int} (e : Kp S H H') (n : b ∉ S) (h : BoxAt H b c) : BoxAt H' b c := by
  obtain ⟨xs, h1, h2⟩ := h
  exact ⟨xs, e _ _ n h1, h2⟩
/-- the boxes of a script: new lists, no two of them one, at D the list of them -/
structure Boxes (H H' : Hp) (D : Addr) (bs : List Addr) : Prop where
  same : Same H H'
  lst : H' D = some (.lst (bs.map V.ref))
  box : ∀ b ∈ bs, BoxAt H' b 0
  new : ∀ b ∈ bs, H b = none
  nd : bs.Nodup
  no : D ∉ bs
  nD : H D = none
def spCells (K : PySem.W.Frag) : Sp := fun vs H Q _ => ∃ (a : Addr) (ns : List Int), vs = [.ref a] ∧ SqL K H a (ns.map V.int) ∧ ns.length ≤ 63 ∧ ∀ H' D bs, Boxes H H' D bs → bs.length ≤ 63 → Q (.ref D) H'
/-- a def whose code object stands at c -/
structure FunC (K : PySem.W.Frag) (x qual : Str) (st : Stmt) (f : Addr) (fd : FuncData) (c : Addr) : Prop where
  ex : ∃ (oc : Value) (od : Option Addr) (kV doc pm : Value) (an : Option Addr) (ct : Value) (osl : Array (Option Value)),
    fd = PySem.W.fnOf x qual (defArgs st) (defBody st) (defScope st) .none kV doc pm an (.ref c) ct ∧ K.lookup f = some ⟨oc, od, .func fd, osl⟩ ∧ PySem.W.codeIn K (.ref c) qual = true
  kp : PySem.W.keepIn K (.ref f) = true
theorem FunC.fn {K : PySem.W.Frag} {x qual : Str} {st : Stmt} {f c : Addr} {fd : FuncData} (F : FunC K x qual st f fd c) : Fun K x qual st f fd := by
  obtain ⟨⟨oc, od, kV, doc, pm, an, ct, osl, e, l, h⟩, k⟩ := F
  exact ⟨⟨oc, od, kV, doc, pm, an, .ref c, ct, osl, e, l, h⟩, k⟩
section
variable {P : Program} {w : World} {K : PySem.W.Frag} {mg : Str → Option Value} {base : Heap}
theorem FunC.ok {x qual : Str} {st : Stmt} {f c : Addr} {fd : FuncData} {N ps : List Str} {k : Nat} {sp : Sp} (F : FunC K x qual st f fd c) (S : FnScope N ps (defScope st)) (len : ∀ vs H Q E, sp vs H Q E → vs.length = ps.length)
    (hbody : ∀ (A : Around) (outer : List Env) (s : Shared) (H : Hp) (vs : List V) (Q : VK) (E : XK), Room k (A.deeper (envOfC qual (defScope st) s.heap.objs.size f (.ref c))) → sp vs H Q E →
      ∃ t, PSs (cxOf CX0 P w K mg base N qual (defScope st) f (.ref c) A outer s H E).nox (defBody st) t ∧ t { nx := fun _ H' => Q .non H', rt := Q } (start N vs) H) :
    FnOk P w K mg base CX0 (k + 1) f fd ps sp := by
  obtain ⟨oc, od, kV, doc, pm, an, ct, osl, rfl, lk, hcd⟩ := F.ex
  refine fn_of lk hcd S len fun A outer s H vs Q E hr hsp => ?_
  obtain ⟨t, h1, h2⟩ := hbody A outer s H vs Q E hr hsp
  exact ⟨t, h1.nox, h2⟩
/-- what a generator expression's scope is checked for, where it captures nothing -/
def genC (scope : Scope) (x : Str) : Bool :=
  decide (scope.kind = .function) && decide (scope.isCoroutine = false) && scope.names.all (fun y => decide (y.2 ≠ .cell) && decide (y.2 ≠ .free)) && decide (scope.names.lookup (".0" : Str) = some NameKind.local) && decide (scope.names.lookup x = some NameKind.local)
theorem genS_of {sc scope : Scope} {x : Str} (h : genC scope x = true) : GenV sc scope x := by
  unfold genC at h
  simp only [Bool.and_eq_true, decide_eq_true_eq, List.all_eq_true] at h
  obtain ⟨⟨⟨⟨h1, h2⟩, h3⟩, h4⟩, h5⟩ := h
  exact ⟨h1, h2, fun y hy => (h3 y hy).1, h4, h5, fun y hy e => absurd e (h3 y hy).2⟩
/-- .. and where it captures names of the def -/
def genCF (sc scope : Scope) (x : Str) : Bool :=
  decide (scope.kind = .function) && decide (scope.isCoroutine = false) && scope.names.all (fun y => decide (y.2 ≠ .cell) && (decide (y.2 ≠ .free) || decide (sc.names.lookup y.1 = some .cell))) && decide (scope.names.lookup (".0" : Str) = some NameKind.local) && decide (scope.names.lookup x = some NameKind.local)
theorem genF_of {sc scope : Scope} {x : Str} (h : genCF sc scope x = true) : GenV sc scope x := by
  unfold genCF at h
  simp only [Bool.and_eq_true, Bool.or_eq_true, decide_eq_true_eq, List.all_eq_true] at h
  obtain ⟨⟨⟨⟨h1, h2⟩, h3⟩, h4⟩, h5⟩ := h
  refine ⟨h1, h2, fun y hy => (h3 y hy).1, h4, h5, fun y hy e => ?_⟩
  rcases (h3 y hy).2 with z | z
  · exact absurd e z
  · exact .inl z
end
/-- between two turns of the law -/
structure Good (T D : Addr) (bs : List Addr) (i : Nat) (H : Hp) : Prop where
  tab : TabG H T
  lst : H D = some (.lst (bs.map V.ref))
  box : ∀ (j : Nat) (b : Addr), i ≤ j → bs[j]? = some b → BoxAt H b 0
theorem TabG.same {H H' : Hp} {T : Addr} (e : Same H H') (h : TabG H T) : TabG H' T := by
  obtain ⟨ps, h1, h2⟩ := h
  exact ⟨ps, e _ _ h1, h2⟩
theorem TabG.kp {S : List Addr} {H H' : Hp} {T : Addr} (e : Kp S H H') (n : T ∉ S) (h : TabG H T) : TabG H' T := by
  obtain ⟨ps, h1, h2⟩ := h
  exact ⟨ps, e _ _ n h1, h2⟩
theorem tab_ne {H : Hp} {T b : Addr} {o : HO} (h : TabG H T) (e : H b = some o) (n : ∀ ps, o ≠ .tbl ps) : b ≠ T := fun z => by
  obtain ⟨ps, h1, _⟩ := h
  rw [z, h1] at e
  exact n ps (Option.some.inj e).symm
theorem tab_nb {H : Hp} {T b : Addr} {c : Int} (h : TabG H T) (B : BoxAt H b c) : b ≠ T := by
  obtain ⟨xs, h1, _⟩ := B
  exact tab_ne h h1 fun ps z => by cases z
theorem Good.same {T D : Addr} {bs : List Addr} {i : Nat} {H H' : Hp} (g : Good T D bs i H) (e : Same H H') : Good T D bs i H' :=
  ⟨TabG.same e g.tab, e _ _ g.lst, fun j b h1 h2 => (g.box j b h1 h2).same e⟩
theorem Good.kpT {T D : Addr} {bs : List Addr} {i : Nat} {H H' : Hp} (g : Good T D bs i H) (e : Kp [T] H H') (h : TabG H' T) : Good T D bs i H' := by
  refine ⟨h, e _ _ (fun z => ?_) g.lst, fun j b h1 h2 => (g.box j b h1 h2).kp e fun z => ?_⟩
  · exact tab_ne g.tab g.lst (fun ps z => by cases z) (List.mem_singleton.mp z)
  · exact tab_nb g.tab (g.box j b h1 h2) (List.mem_singleton.mp z)
theorem Good.kpb {T D b : Addr} {bs : List Addr} {i : Nat} {H H' : Hp} {c : Int} (g : Good T D bs (i + 1) H) (B : BoxAt H b c) (hb : bs[i]? = some b) (nd : bs.Nodup) (no : D ∉ bs) (e : Kp [b] H H') : Good T D bs (i + 1) H' := by
  refine ⟨TabG.kp e (fun z => tab_nb g.tab B (List.mem_singleton.mp z).symm) g.tab, e _ _ (fun z => no (by rw [List.mem_singleton.mp z]; exact List.mem_of_getElem? hb)) g.lst, fun j b' h1 h2 => (g.box j b' h1 h2).kp e fun z => ?_⟩
  obtain ⟨q1, e1⟩ := List.getElem?_eq_some_iff.mp hb
  obtain ⟨q2, e2⟩ := List.getElem?_eq_some_iff.mp h2
  exact List.pairwise_iff_getElem.mp nd i j q1 q2 (by omega) (by rw [e1, e2]; exact (List.mem_singleton.mp z).symm)
theorem al_list {H : Hp} {p q : Addr} {xs ys : List V} (h1 : H p = some (.lst xs)) (h2 : H q = some (.lst ys)) (hl : xs.length = ys.length) (hs : xs.length < 100000) (k : ∀ (i : Nat) (x y : V), xs[i]? = some x → ys[i]? = some y → Leaf x y) : Al H 1 (.ref p) (.ref q) :=
  .inr ⟨p, q, xs, ys, rfl, rfl, .inl ⟨h1, h2⟩, hl, hs, fun i x y a b => k i x y a b⟩
/-- the end of a law that reaches generator expressions: the head's own words of the top go on to the promise -/
theorem walk_tabs {l : PySem.W.OpenLaw} {n k : Nat} {q : Program} {loose : List Str} {XP : (Str → Option Value) → Heap → Prop} {YP : World → Heap → Prop} {d : DefRec} {K : Params → PySem.W.Frag} {x : Str}
    (hn : l.most = some n) (hn2 : n ≤ sizeLine) (hdf : d.params.defaults = []) (hr : Room k callerA) (hY : ∀ (w : World) (h : Heap), YP w h → (K w.params).In h)
    (F : ∀ (w : World) (mg mb : Str → Option Value) (mean : ExcName → Option Value) (fa : Addr) (h : Heap), PyProof.Rows.Top q (PySem.W.looseW q loose) mean mg mb h → (K w.params).In h → mg d.name = some (.ref fa) → LamX.LawAtS l w (K w.params) CX0 k n x mg fa h) :
    PySem.W.WalkO q loose XP YP l.row.toRowW d [] (fun f vs => PySem.call f vs) := by
  refine Att.attach_callB hn hdf fun w s0 s1 mg mb fa o pm cd doc a vs ns G Y ho hd hcd hmg hobj hints hlen hbits hg => ?_
  have KX := hY w _ Y
  obtain ⟨fd, cs, sp, h1, h2, h3, h4, h5, h6⟩ := F w mg mb _ fa _ G.T KX hmg
  exact LamX.law_callTs KX G.T.g G.T.b G.T.builtins G.T.nolimit hg h1 h2 h3 G.T.bmain hobj hints (Nat.le_trans hlen hn2) hr h6 h4 (fun H hH hS => h5 H a ns hlen hbits hH hS) fun H e s' z => z
theorem tab_at {p : Program} {loose : List Str} {mean : ExcName → Option Value} {mg mb : Str → Option Value} {h : Heap} {K : PySem.W.Frag} {x : Str} {c T : Addr} (Z : PyProof.Rows.Top p loose mean mg mb h) (X : K.In h)
    (hr : ((recsOf p).any fun e => e.name == x) = true) (ht : PySem.W.tabIn K x = some (c, T)) : PySem.W.CodeHd h c T ∧ h.get? T = some { cls := .none, data := .fields #[] } := by
  cases e : (recsOf p).find? (fun e => e.name == x) with
  | none =>
    obtain ⟨d, hd, hx⟩ := List.any_eq_true.mp hr
    exact absurd hx (List.find?_eq_none.mp e d hd)
  | some d => exact PySem.W.tab_of Z X e ht
theorem tab_in {K : PySem.W.Frag} {x : Str} {f c T : Addr} {oc e : Value} {od ed : Option Addr} {fd : FuncData} {sl es : Array (Option Value)} {vs : Array Value} (a : PySem.W.nsIn K mainGlobals x = some (some (.ref f))) (l : K.lookup f = some ⟨oc, od, .func fd, sl⟩) (hc : fd.code = .ref c)
    (u : K.lookup c = some ⟨e, ed, .fields vs, es⟩) (v : vs[11]? = some (.ref T)) : PySem.W.tabIn K x = some (c, T) := by
  unfold PySem.W.tabIn
  simp only [a, l, hc, u, v]
end My

namespace GX
open PySem PySem.Spec PyProof.Rows L2
open AutoSeq1 (wpAny_loadPart')
theorem tuple_once (l : Addr) (items : Array Value) (n : Nat) (dd : Option Addr) (sl : Array (Option Value)) (u : Tok) :
    Meets (Builtin.«tuple.__mul__» ⟨[.ref l, .int 1 u], []⟩) (fun _ R s => s.heap.get? l = some { cls := .type "tuple", dict := dd, data := .seq items n, slots := sl } ∧ R (.ok (.ret (Value.ref l))) s) :=
  .of_wp fun prog w A R s h => by
    obtain ⟨hp, g, d, tk, os⟩ := s
    obtain ⟨hl, h⟩ := h
    have f1 := AutoSeq1.idx_int
    wp_walk using wpAny_loadPart' hl
    exact ⟨_, rfl, h⟩
/-- t * k, k from 1 on: once is the tuple itself -/
def rRepU (K : PySem.W.Frag) : R2 := fun x y H Q => ∃ l k xs, x = .ref l ∧ y = .int k ∧ SqT K H l xs ∧ xs ≠ [] ∧ 1 ≤ k ∧ k ≤ 1000 ∧ xs.length ≤ 1000 ∧
  (k = 1 → Q (.ref l) H) ∧ (k ≠ 1 → ∀ p, H p = none → Q (.ref p) (upd H p (.tup (List.replicate k.toNat xs).flatten)))
theorem op_repU {X : Cx} : OpR X (binaryOp .Mult) (rRepU X.K) := by
  intro pins s σ H x y v u Q I rx ry h
  obtain ⟨l, k, xs, rfl, rfl, hT, hne, h1, h2, hz, q1, q2⟩ := h
  by_cases hk : k = 1
  · subst hk
    cases rx
    obtain ⟨t, rfl⟩ := ry
    obtain ⟨its, r, ⟨⟨cls, dd, data, sl⟩, ho, hc, n, hd⟩, hs⟩ := I.tuple hT
    simp only at hc hd
    subst hc hd
    exact wpAny_binaryOp_repeat_ref (T := "tuple") (U := "int") (by decide) ⟨_, ho, rfl⟩ (fun s' => typeIs_int s' 1 t) noFill_tuple_mul F.fills_int_mul F.slot_int_rmul repeat_tuple F.slot_int_index.lookup
      (call_meets F.slot_int_rmul (typeIs_int s 1 t) F.entry_int_rmul (F.args_int_rmul_2 _ _) (int_rmul_tuple 1 t l its.toArray n dd sl)
        ⟨ho, rfl, ⟨_, ho, rfl⟩, call_meets F.slot_tuple_mul ⟨_, ho, rfl⟩ F.entry_tuple_mul (F.args_tuple_mul_2 _ _) (tuple_once l its.toArray n dd sl t) ⟨ho, ⟨.ref l, H, I, rfl, q1 rfl⟩⟩⟩)
  · exact op_repT pins s σ H _ _ v u Q I rx ry ⟨l, k, xs, rfl, rfl, hT, hne, by omega, h2, hz, q2 hk⟩
end GX

namespace My
open PySem PySem.Spec PyProof.Rows L2 GX GxR
/-- what is known within a turn of a law: the tables of the code objects Ts, the box at b (asked at most c times), the things fs that stay -/
structure Wd (Ts : List Addr) (b : Addr) (c : Int) (fs : List (Addr × HO)) (H : Hp) : Prop where
  tab : ∀ T ∈ Ts, TabG H T
  box : BoxAt H b c
  obj : ∀ f ∈ fs, H f.1 = some f.2
  off : ∀ f ∈ fs, f.1 ≠ b ∧ f.1 ∉ Ts
section
variable {Ts : List Addr} {b : Addr} {c : Int} {fs : List (Addr × HO)} {H H' : Hp}
theorem Wd.nbT (W : Wd Ts b c fs H) {T : Addr} (h : T ∈ Ts) : b ≠ T := tab_nb (W.tab T h) W.box
theorem Wd.same (W : Wd Ts b c fs H) (e : Same H H') : Wd Ts b c fs H' :=
  ⟨fun T h => TabG.same e (W.tab T h), W.box.same e, fun f h => e _ _ (W.obj f h), W.off⟩
theorem Wd.asked (W : Wd Ts b c fs H) {c' : Int} (e : Kp [b] H H') (B : BoxAt H' b c') : Wd Ts b c' fs H' :=
  ⟨fun T h => TabG.kp e (fun z => W.nbT h (List.mem_singleton.mp z).symm) (W.tab T h), B, fun f h => e _ _ (fun z => (W.off f h).1 (List.mem_singleton.mp z)) (W.obj f h), W.off⟩
theorem Wd.grown (W : Wd Ts b c fs H) {T : Addr} (h : T ∈ Ts) (e : Kp [T] H H') (t : TabG H' T) : Wd Ts b c fs H' := by
  refine ⟨fun T' h' => ?_, W.box.kp e fun z => W.nbT h (List.mem_singleton.mp z), fun f hf => e _ _ (fun z => (W.off f hf).2 (by rw [List.mem_singleton.mp z]; exact h)) (W.obj f hf), W.off⟩
  by_cases z : T' = T
  · rw [z]
    exact t
  · exact TabG.kp e (fun q => z (List.mem_singleton.mp q)) (W.tab T' h')
/-- a thing that is new -/
theorem Wd.new {c0 : Int} (W : Wd Ts b c0 fs H) {p : Addr} {o : HO} (n : H p = none) (e : H' p = some o) (W' : Wd Ts b c fs H') : Wd Ts b c ((p, o) :: fs) H' := by
  refine ⟨W'.tab, W'.box, fun f hf => ?_, fun f hf => ?_⟩
  · rcases List.mem_cons.mp hf with z | z
    · rw [z]
      exact e
    · exact W'.obj f z
  · rcases List.mem_cons.mp hf with z | z
    · rw [z]
      refine ⟨fun q => ?_, fun q => ?_⟩
      · obtain ⟨xs, h1, _⟩ := W.box
        exact ne_of_none h1 n (Eq.symm q)
      · obtain ⟨ps, h1, _⟩ := W.tab _ q
        rw [show H p = some (.tbl ps) from h1] at n
        cases n
    · exact W'.off f z
theorem Wd.laid (W : Wd Ts b c fs H) {p : Addr} {o : HO} (n : H p = none) : Wd Ts b c ((p, o) :: fs) (upd H p o) :=
  W.new n upd_same (W.same (same_upd n))
theorem Wd.le (W : Wd Ts b c fs H) {c' : Int} (h : c ≤ c') : Wd Ts b c' fs H := by
  obtain ⟨xs, h1, d, m, t, h2, h3, h4, h5, h6, h7⟩ := W.box
  exact ⟨W.tab, ⟨xs, h1, d, m, t, h2, h3, h4, h5, h6, by omega⟩, W.obj, W.off⟩
end
/-- between two turns, of several tables -/
structure GoodS (Ts : List Addr) (D : Addr) (bs : List Addr) (i : Nat) (H : Hp) : Prop where
  tab : ∀ T ∈ Ts, TabG H T
  lst : H D = some (.lst (bs.map V.ref))
  box : ∀ (j : Nat) (b : Addr), i ≤ j → bs[j]? = some b → BoxAt H b 0
/-- the things that stay within turn i -/
def keptIn (D : Addr) (bs : List Addr) (i : Nat) (H : Hp) : List (Addr × HO) := (D :: bs.drop (i + 1)).map fun a => (a, (H a).getD (.lst []))
theorem GoodS.inn {Ts : List Addr} {D b : Addr} {bs : List Addr} {i : Nat} {H : Hp} (g : GoodS Ts D bs i H) (hb : bs[i]? = some b) (nd : bs.Nodup) (no : D ∉ bs) : Wd Ts b 0 (keptIn D bs i H) H := by
  have B := g.box i b (Nat.le_refl _) hb
  have at_ : ∀ a ∈ D :: bs.drop (i + 1), ∃ xs, H a = some (.lst xs) := fun a ha => by
    rcases List.mem_cons.mp ha with z | z
    · rw [z]
      exact ⟨_, g.lst⟩
    · obtain ⟨j, hj⟩ := List.mem_iff_getElem?.mp z
      rw [List.getElem?_drop] at hj
      obtain ⟨xs, h1, _⟩ := g.box (i + 1 + j) a (by omega) hj
      exact ⟨xs, h1⟩
  refine ⟨g.tab, B, fun f hf => ?_, fun f hf => ?_⟩
  · obtain ⟨a, ha, rfl⟩ := List.mem_map.mp hf
    obtain ⟨xs, h1⟩ := at_ a ha
    show H a = some ((H a).getD (.lst []))
    rw [h1]
    rfl
  · obtain ⟨a, ha, rfl⟩ := List.mem_map.mp hf
    obtain ⟨xs, h1⟩ := at_ a ha
    refine ⟨fun z => ?_, fun z => tab_ne (g.tab a z) h1 (fun ps q => by cases q) rfl⟩
    have z' : a = b := z
    rcases List.mem_cons.mp ha with q | q
    · exact no (by rw [← q, z']; exact List.mem_of_getElem? hb)
    · obtain ⟨j, hj⟩ := List.mem_iff_getElem?.mp q
      rw [List.getElem?_drop] at hj
      obtain ⟨q1, e1⟩ := List.getElem?_eq_some_iff.mp hb
      obtain ⟨q2, e2⟩ := List.getElem?_eq_some_iff.mp hj
      exact List.pairwise_iff_getElem.mp nd i (i + 1 + j) q1 q2 (by omega) (by rw [e1, e2]; exact z'.symm)
theorem GoodS.out {Ts : List Addr} {D b : Addr} {bs : List Addr} {i : Nat} {c : Int} {fs : List (Addr × HO)} {H H' : Hp} (g : GoodS Ts D bs i H) (W : Wd Ts b c fs H') (h : ∀ f ∈ keptIn D bs i H, f ∈ fs) : GoodS Ts D bs (i + 1) H' := by
  have at_ : ∀ a ∈ D :: bs.drop (i + 1), H' a = some ((H a).getD (.lst [])) := fun a ha => W.obj (a, _) (h _ (List.mem_map.mpr ⟨a, ha, rfl⟩))
  refine ⟨W.tab, ?_, fun j b' h1 h2 => ?_⟩
  · have e := at_ D List.mem_cons_self
    rw [g.lst] at e
    exact e
  · have hm : b' ∈ bs.drop (i + 1) := by
      refine List.mem_iff_getElem?.mpr ⟨j - (i + 1), ?_⟩
      rw [List.getElem?_drop, show i + 1 + (j - (i + 1)) = j by omega]
      exact h2
    have e := at_ b' (List.mem_cons_of_mem _ hm)
    obtain ⟨xs, h3, h4⟩ := g.box j b' (by omega) h2
    rw [h3] at e
    exact ⟨xs, e, h4⟩
/-- an amount: numbers from 0 to 10 ** 12 -/
def Amt (ns : List Int) : Prop := ∀ n ∈ ns, 0 ≤ n ∧ n ≤ 1000000000000
def spWide : Sp := fun vs H Q _ => ∃ (b : Addr) (c : Int), vs = [.ref b] ∧ BoxAt H b c ∧ c ≤ 100000000 ∧ ∀ n H', 0 ≤ n → n ≤ 1000000000000 → Kp [b] H H' → BoxAt H' b (c + 6) → Q (.int n) H'
def spAmount : Sp := fun vs H Q _ => ∃ (b : Addr) (c : Int) (k : Nat), vs = [.ref b, .int (k : Int)] ∧ BoxAt H b c ∧ c ≤ 10000000 ∧ k ≤ 100 ∧
  ∀ p ns H', Amt ns → ns.length = k → Kp [b] H H' → BoxAt H' b (c + 600) → H p = none → H' p = some (.tup (ns.map V.int)) → Q (.ref p) H'
/-! two lists, place by place -/
inductive Prs (R : V → V → Prop) : List V → List V → Prop
  | nil : Prs R [] []
  | cons {x y : V} {xs ys : List V} : R x y → Prs R xs ys → Prs R (x :: xs) (y :: ys)
theorem Prs.len {R : V → V → Prop} : ∀ {xs ys : List V}, Prs R xs ys → xs.length = ys.length
  | _, _, .nil => rfl
  | _, _, .cons _ h => congrArg Nat.succ h.len
theorem Prs.get {R : V → V → Prop} : ∀ {xs ys : List V}, Prs R xs ys → ∀ (i : Nat) (x y : V), xs[i]? = some x → ys[i]? = some y → R x y
  | _, _, .nil, _, _, _, h, _ => by simp at h
  | _, _, .cons r h, 0, _, _, h1, h2 => by
    cases h1
    cases h2
    exact r
  | _, _, .cons r h, i + 1, x, y, h1, h2 => h.get i x y h1 h2
theorem Prs.ints {R : V → V → Prop} (r : ∀ i, R (.int i) (.int i)) : ∀ ns : List Int, Prs R (ns.map V.int) (ns.map V.int)
  | [] => .nil
  | n :: ns => .cons (r n) (Prs.ints r ns)
theorem al_int {H : Hp} {n : Nat} (i : Int) : Al H n (.int i) (.int i) := Al.leaf (.inr (.inl ⟨i, rfl, rfl⟩)) n
theorem al_bl {H : Hp} {n : Nat} (b : Bool) : Al H n (.bl b) (.bl b) := Al.leaf (.inl ⟨b, rfl, rfl⟩) n
theorem al_lst {H : Hp} {n : Nat} {p q : Addr} {xs ys : List V} (h1 : H p = some (.lst xs)) (h2 : H q = some (.lst ys)) (hs : xs.length < 100000) (k : Prs (Al H n) xs ys) : Al H (n + 1) (.ref p) (.ref q) :=
  .inr ⟨p, q, xs, ys, rfl, rfl, .inl ⟨h1, h2⟩, k.len, hs, k.get⟩
theorem al_tup {H : Hp} {n : Nat} {p q : Addr} {ns : List Int} (h1 : H p = some (.tup (ns.map V.int))) (h2 : H q = some (.tup (ns.map V.int))) (hs : ns.length < 100000) : Al H (n + 1) (.ref p) (.ref q) :=
  .inr ⟨p, q, _, _, rfl, rfl, .inr ⟨h1, h2⟩, rfl, by rw [List.length_map]; exact hs, (Prs.ints (fun i => al_int i) ns).get⟩
/-! what the amounts come to, number by number -/
def spNothing : Sp := fun vs H Q _ => ∃ k : Nat, vs = [.int (k : Int)] ∧ 1 ≤ k ∧ k ≤ 1000 ∧ ∀ p H', Same H H' → H p = none → H' p = some (.tup ((List.replicate k (0 : Int)).map V.int)) → Q (.ref p) H'
def spZip (K : PySem.W.Frag) (T : Addr) (op : Int → Int → Int) : Sp := fun vs H Q _ => ∃ (a b : Addr) (xs ys : List Int), vs = [.ref a, .ref b] ∧ SqT K H a (xs.map V.int) ∧ SqT K H b (ys.map V.int) ∧ xs.length ≤ 1000 ∧ TabG H T ∧
  ∀ p H', TabG H' T → Kp [T] H H' → H p = none → H' p = some (.tup ((List.zipWith op xs ys).map V.int)) → Q (.ref p) H'
def spZipS (K : PySem.W.Frag) (op : Int → Int → Int) : Sp := fun vs H Q _ => ∃ (a b : Addr) (xs ys : List Int), vs = [.ref a, .ref b] ∧ SqT K H a (xs.map V.int) ∧ SqT K H b (ys.map V.int) ∧ xs.length ≤ 1000 ∧
  ∀ p H', Same H H' → H p = none → H' p = some (.tup ((List.zipWith op xs ys).map V.int)) → Q (.ref p) H'
/-- one that leaves all as it was does so with a table, too -/
theorem zip_tab {K : PySem.W.Frag} {op : Int → Int → Int} (T : Addr) (vs : List V) (H : Hp) (Q : VK) (E : XK) (h : spZip K T op vs H Q E) : spZipS K op vs H Q E := by
  obtain ⟨a, b, xs, ys, e, hX, hY, hl, hT, q⟩ := h
  exact ⟨a, b, xs, ys, e, hX, hY, hl, fun p H' s n h => q p H' (TabG.same s hT) (Same.kp _ s) n h⟩
theorem get_int {xs : List Int} {i : Nat} {v : V} (h : (xs.map V.int)[i]? = some v) : ∃ x, xs[i]? = some x ∧ v = .int x := by
  rw [List.getElem?_map] at h
  cases e : xs[i]? with
  | none => rw [e] at h; cases h
  | some x =>
    rw [e] at h
    exact ⟨x, rfl, (Option.some.inj h).symm⟩
theorem same_putA {H H1 : Hp} {b : Addr} {o : HO} (s : Same H H1) (n : H b = none) : Same H (upd H1 b o) := fun x u e => by
  rw [upd_ne (ne_of_none e n)]
  exact s _ _ e
theorem zip_to {g : V → V → V} {op : Int → Int → Int} (h : ∀ i j, g (.int i) (.int j) = .int (op i j)) : ∀ xs ys : List Int, (((xs.map V.int).zip (ys.map V.int)).map fun v => g v.1 v.2) = (List.zipWith op xs ys).map V.int
  | [], _ => rfl
  | _ :: _, [] => rfl
  | x :: xs, y :: ys => by
    show g (.int x) (.int y) :: (((xs.map V.int).zip (ys.map V.int)).map fun v => g v.1 v.2) = .int (op x y) :: (List.zipWith op xs ys).map V.int
    rw [h, zip_to h xs ys]
theorem zip_ints : ∀ (xs ys : List Int), ∀ v ∈ (xs.map V.int).zip (ys.map V.int), Ints2 v.1 v.2
  | [], _, _, h => by cases h
  | _ :: _, [], _, h => by cases h
  | x :: xs, y :: ys, v, h => by
    rcases List.mem_cons.mp h with e | e
    · rw [e]
      exact ⟨x, y, rfl, rfl⟩
    · exact zip_ints xs ys v e
theorem zip_len {op : Int → Int → Int} (xs ys : List Int) : (List.zipWith op xs ys).length ≤ xs.length := by
  rw [List.length_zipWith]
  omega
theorem rep_flat (k : Nat) (v : V) : (List.replicate k [v]).flatten = List.replicate k v := by
  induction k with
  | zero => rfl
  | succ k ih =>
    rw [List.replicate_succ, List.flatten_cons, ih]
    rfl
theorem kp_of_tabbed {T : Addr} {H H2 : Hp} (h : Tabbed T H H2) : Kp [T] H H2 := fun x o nx e => by
  rw [h.2 x fun z => nx (by rw [z]; exact List.mem_singleton.mpr rfl)]
  exact e
theorem free_of_tabbed {T d : Addr} {H H2 : Hp} (h : Tabbed T H H2) (n : H2 d = none) : H d = none := by
  obtain ⟨⟨ps, h1, _⟩, h2⟩ := h
  by_cases z : d = T
  · rw [z, h1] at n
    cases n
  · rw [← h2 d z]
    exact n
theorem rep_read {K : PySem.W.Frag} {H : Hp} {Q : VK} {t : Addr} {k : Int} {n : Nat} (hk : k = (n : Int)) (h1 : 1 ≤ n) (h2 : n ≤ 1000) (nt : H t = none) (q : ∀ p H', Same H H' → H p = none → H' p = some (.tup ((List.replicate n (0 : Int)).map V.int)) → Q (.ref p) H') :
    rRepU K (.ref t) (.int k) (upd H t (.tup [.int 0])) Q := by
  refine ⟨t, k, [.int 0], rfl, rfl, SqT.of upd_same, by simp, by omega, by omega, by decide, fun z => ?_, fun z p np => ?_⟩
  · have z' : n = 1 := by omega
    subst z'
    exact q t _ (same_upd nt) nt upd_same
  · refine q p _ ((same_upd nt).trans (same_upd np)) ((same_upd nt).free np) ?_
    rw [upd_same, hk, Int.toNat_natCast, rep_flat, List.map_replicate]
theorem at_ints {xs : List Int} {i : Nat} {x : Int} (h : xs[i]? = some x) : atI (xs.map V.int) (0 + (i : Int)) = some (.int x) := by
  rw [Int.zero_add]
  exact atI_nat (by rw [List.getElem?_map, h]; rfl)
theorem zw_take {op : Int → Int → Int} {xs ys : List Int} {i : Nat} {x y : Int} (hx : xs[i]? = some x) (hy : ys[i]? = some y) : (List.zipWith op xs ys).take (i + 1) = (List.zipWith op xs ys).take i ++ [op x y] := by
  rw [List.take_add_one, List.getElem?_zipWith, hx, hy]
  rfl
theorem same_seqT {K : PySem.W.Frag} {H H' : Hp} {a : Addr} {xs : List V} (e : Same H H') (h : SqT K H a xs) : SqT K H' a xs := by
  rcases h with (h | ⟨o, h⟩) | h
  · exact .inl (.inl (e _ _ h))
  · exact .inl (.inr ⟨o, e _ _ h⟩)
  · exact .inr h
theorem Amt.take {ns : List Int} (h : Amt ns) (k : Nat) : Amt (ns.take k) := fun n hn => h n (List.mem_of_mem_take hn)
theorem Amt.drop {ns : List Int} (h : Amt ns) (k : Nat) : Amt (ns.drop k) := fun n hn => h n (List.mem_of_mem_drop hn)
theorem Amt.app {ns ms : List Int} (h : Amt ns) (h' : Amt ms) : Amt (ns ++ ms) := fun n hn => by
  rcases List.mem_append.mp hn with z | z
  · exact h n z
  · exact h' n z
theorem BoxAt.le {H : Hp} {b : Addr} {c c' : Int} (B : BoxAt H b c) (h : c ≤ c') : BoxAt H b c' := by
  obtain ⟨xs, h1, d, m, t, h2, h3, h4, h5, h6, h7⟩ := B
  exact ⟨xs, h1, d, m, t, h2, h3, h4, h5, h6, by omega⟩
theorem box_free {H H' : Hp} {b : Addr} {c : Int} (B : BoxAt H' b c) (k : Kp [b] H H') {x : Addr} (n : H' x = none) : H x = none := by
  cases e : H x with
  | none => rfl
  | some o =>
    by_cases z : x = b
    · obtain ⟨ys, h1, _⟩ := B
      rw [z, h1] at n
      cases n
    · rw [k _ _ (fun q => z (List.mem_singleton.mp q)) e] at n
      cases n
theorem box_ne {H : Hp} {b p : Addr} {c : Int} {xs : List V} (B : BoxAt H b c) (h : H p = some (.tup xs)) : p ∉ [b] := fun z => by
  obtain ⟨ys, h1, _⟩ := B
  rw [← List.mem_singleton.mp z, h] at h1
  cases h1
theorem box_new {H : Hp} {b p : Addr} {c : Int} (B : BoxAt H b c) (h : H p = none) : p ∉ [b] := fun z => by
  obtain ⟨ys, h1, _⟩ := B
  rw [← List.mem_singleton.mp z, h] at h1
  cases h1
end My

namespace My
open PySem PySem.Spec PyProof.Rows L2 GX GxR
/-- a draw below any number up to 2 ** 60 -/
def spTakeW : Sp := fun vs H Q _ => ∃ (b : Addr) (c many : Int), vs = [.ref b, .int many] ∧ BoxAt H b c ∧ 0 < many ∧ many ≤ 1152921504606846976 ∧ c ≤ 1000000000 ∧
  ∀ r H', 0 ≤ r → r < many → Kp [b] H H' → BoxAt H' b (c + 1) → Q (.int r) H'
theorem wideOk {i many : Int} (h0 : 0 < many) (h1 : many ≤ 1152921504606846976) : CDivW i many :=
  wide_div (b := 62) h0 (by have : (2 : Nat) ^ 62 = 4611686018427387904 := by decide
                            rw [this]; omega) (by decide) (by decide)
end My

namespace My
open PySem PySem.Spec PyProof.Rows L2 GX GxR
theorem cat_read {K : PySem.W.Frag} {H : Hp} {Q : VK} {a b : Addr} {xs ys : List V} (N : Addr → Prop) (ha : H a = some (.tup xs)) (hb : H b = some (.tup ys)) (na : N a) (nb : N b) (hn : ∀ p, H p = none → N p) (hl : xs.length + ys.length ≤ sizeLine)
    (q : ∀ p H', Same H H' → N p → H' p = some (.tup (xs ++ ys)) → Q (.ref p) H') : rCatA K (.ref a) (.ref b) H Q := by
  refine ⟨a, b, xs, ys, rfl, rfl, SqT.of ha, SqT.of hb, hl, fun e => ?_, fun e1 e2 => ?_, fun e1 e2 p np => q p _ (same_upd np) (hn p np) upd_same⟩
  · subst e
    exact q b H (Same.refl _) nb hb
  · subst e2
    exact q a H (Same.refl _) na (by rw [List.append_nil]; exact ha)
end My

namespace GX
open PySem PySem.Spec PyProof.Rows L2
theorem fold_min (n : Int) : ∀ ns : List Int, (ns.foldl min n = n ∨ ns.foldl min n ∈ ns) ∧ ns.foldl min n ≤ n ∧ ∀ y ∈ ns, ns.foldl min n ≤ y := by
  intro ns
  induction ns generalizing n with
  | nil => exact ⟨.inl rfl, Int.le_refl _, fun _ h => nomatch h⟩
  | cons m r ih =>
    obtain ⟨h1, h2, h3⟩ := ih (min n m)
    rw [List.foldl_cons]
    refine ⟨?_, by omega, fun y hy => ?_⟩
    · rcases h1 with e | e
      · rw [e]
        by_cases hm : n ≤ m
        · exact .inl (by omega)
        · exact .inr (by rw [show min n m = m by omega]; exact List.mem_cons_self)
      · exact .inr (List.mem_cons_of_mem _ e)
    · rcases List.mem_cons.mp hy with e | e
      · rw [e]
        omega
      · exact h3 y e
/-- min(xs, default=d), xs a list of whole numbers -/
def rMinD (K : PySem.W.Frag) : List V → List V → Hp → VK → Prop := fun vs zs H Q => ∃ (a : Addr) (ns : List Int) (d : V), vs = [.ref a] ∧ zs = [d] ∧ SqL K H a (ns.map V.int) ∧ (ns = [] → Q d H) ∧ ∀ m, m ∈ ns → (∀ y ∈ ns, m ≤ y) → Q (.int m) H
theorem cr_minD {X : Cx} (hc : X.calm = true) (hu : X.A.units + 1 < cLine) : CallRK X (.builtin "min") ["default"] (rMinD X.K) := by
  intro pins s σ H xs zs us ws Q I r1 r2 h
  obtain ⟨a, ns, d, rfl, rfl, hq, q0, q1⟩ := h
  obtain ⟨u, rfl, ru⟩ := vals1 r1
  obtain ⟨u2, rfl, ru2⟩ := vals1 r2
  obtain rfl : u = Value.ref a := ru
  obtain ⟨its, rv, pl, _⟩ := I.list hq
  have rd : ∀ (ns : List Int) (us : List Value), Vals (ns.map V.int) us → ReadsAll s.heap us (ns.map PyData.int) [] := by
    intro ns
    induction ns with
    | nil =>
      intro us h
      cases h
      exact .nil
    | cons n r ih =>
      intro us h
      cases h with
      | cons h1 h2 =>
        obtain ⟨t, rfl⟩ := h1
        exact .cons (as := []) (bs := []) (.int n t) (ih _ h2)
  refine PySem.W.min_list_default (xs := ns.map PyData.int) (as := []) (I.ok.hd hc) pl.isList (rd ns its rv) ⟨fun x hx y hy => ?_, fun x hx => ?_⟩ (by rw [PySem.W.ke_depthAll]; exact hu) (fun e h' tk kp => ?_) (fun y ys i v h' tk bs e hv hr kp => ?_)
  · obtain ⟨i, _, rfl⟩ := List.mem_map.mp hx
    obtain ⟨j, _, rfl⟩ := List.mem_map.mp hy
    rfl
  · obtain ⟨i, _, rfl⟩ := List.mem_map.mp hx
    exact fun z => nomatch z
  · have e2 : ns = [] := by
      cases ns with
      | nil => rfl
      | cons _ _ => cases e
    exact ⟨d, H, I.kept kp, ru2, q0 e2⟩
  · cases ns with
    | nil => cases e
    | cons n r =>
      rw [List.map_cons] at e
      injection e with e1 e2
      subst e1 e2
      rw [PySem.W.minD_ints] at hr
      obtain ⟨t, rfl⟩ : ∃ t, v = Value.int (r.foldl min n) t := by
        cases hr
        exact ⟨_, rfl⟩
      obtain ⟨h1, h2, h3⟩ := fold_min n r
      refine ⟨.int (r.foldl min n), H, I.kept kp, ⟨t, rfl⟩, q1 _ ?_ fun y hy => ?_⟩
      · rcases h1 with e | e
        · rw [e]
          exact List.mem_cons_self
        · exact List.mem_cons_of_mem _ e
      · rcases List.mem_cons.mp hy with e | e
        · rw [e]
          exact h2
        · exact h3 y e
theorem fold_max (n : Int) : ∀ ns : List Int, (ns.foldl max n = n ∨ ns.foldl max n ∈ ns) ∧ n ≤ ns.foldl max n ∧ ∀ y ∈ ns, y ≤ ns.foldl max n := by
  intro ns
  induction ns generalizing n with
  | nil => exact ⟨.inl rfl, Int.le_refl _, fun _ h => nomatch h⟩
  | cons m r ih =>
    obtain ⟨h1, h2, h3⟩ := ih (max n m)
    rw [List.foldl_cons]
    refine ⟨?_, by omega, fun y hy => ?_⟩
    · rcases h1 with e | e
      · rw [e]
        by_cases hm : m ≤ n
        · exact .inl (by omega)
        · exact .inr (by rw [show max n m = m by omega]; exact List.mem_cons_self)
      · exact .inr (List.mem_cons_of_mem _ e)
    · rcases List.mem_cons.mp hy with e | e
      · rw [e]
        omega
      · exact h3 y e
/-- max(t), t a tuple of whole numbers -/
def rMaxT (K : PySem.W.Frag) : List V → Hp → VK → Prop := fun vs H Q => ∃ (a : Addr) (ns : List Int), vs = [.ref a] ∧ SqT K H a (ns.map V.int) ∧ 0 < ns.length ∧ ∀ m, m ∈ ns → (∀ y ∈ ns, y ≤ m) → Q (.int m) H
theorem cr_maxT {X : Cx} (hc : X.calm = true) (hu : X.A.units + 1 < cLine) : CallR X (.builtin "max") (rMaxT X.K) := by
  intro pins s σ H xs us Q I r1 h
  obtain ⟨a, ns, rfl, hq, hn, q1⟩ := h
  obtain ⟨u, rfl, ru⟩ := vals1 r1
  obtain rfl : u = Value.ref a := ru
  obtain ⟨its, rv, pl, _⟩ := I.tuple hq
  have rd : ∀ (ns : List Int) (us : List Value), Vals (ns.map V.int) us → ReadsAll s.heap us (ns.map PyData.int) [] := by
    intro ns
    induction ns with
    | nil =>
      intro us h
      cases h
      exact .nil
    | cons n r ih =>
      intro us h
      cases h with
      | cons h1 h2 =>
        obtain ⟨t, rfl⟩ := h1
        exact .cons (as := []) (bs := []) (.int n t) (ih _ h2)
  cases ns with
  | nil => cases hn
  | cons n r =>
    refine PySem.W.max_tuple_data (x := .int n) (xs := r.map PyData.int) (as := []) (I.ok.hd hc) pl (rd (n :: r) its rv) ⟨fun x hx y hy => ?_, fun x hx => ?_⟩ ?_ (fun i v h' tk bs hv hr kp => ?_)
    · obtain ⟨i, _, rfl⟩ := List.mem_map.mp (show x ∈ (n :: r).map PyData.int from hx)
      obtain ⟨j, _, rfl⟩ := List.mem_map.mp (show y ∈ (n :: r).map PyData.int from hy)
      rfl
    · obtain ⟨i, _, rfl⟩ := List.mem_map.mp (show x ∈ (n :: r).map PyData.int from hx)
      exact fun z => nomatch z
    · show X.A.units + 1 + PyData.depthAll ((n :: r).map PyData.int) < cLine
      rw [PySem.W.ke_depthAll]
      exact hu
    · rw [PySem.W.maxD_ints] at hr
      obtain ⟨t, rfl⟩ : ∃ t, v = Value.int (r.foldl max n) t := by
        cases hr
        exact ⟨_, rfl⟩
      obtain ⟨h1, h2, h3⟩ := fold_max n r
      refine ⟨.int (r.foldl max n), H, I.kept kp, ⟨t, rfl⟩, q1 _ ?_ fun y hy => ?_⟩
      · rcases h1 with e | e
        · rw [e]
          exact List.mem_cons_self
        · exact List.mem_cons_of_mem _ e
      · rcases List.mem_cons.mp hy with e | e
        · rw [e]
          exact h2
        · exact h3 y e
end GX

namespace My
open PySem PySem.Spec PyProof.Rows L2 GX GxR
/-- text * n -/
theorem op_mul_str {X : Cx} : OpR X (binaryOp .Mult) (fun x y H Q => ∃ z n, x = .str z ∧ y = .int n ∧ MulOk z n ∧ Q (.str (Txt.mul z n)) H) := by
  intro pins s σ H x y v u Q I rx ry h
  obtain ⟨z, n, rfl, rfl, hz, q⟩ := h
  obtain ⟨t, rfl⟩ := rx
  obtain ⟨t', rfl⟩ := ry
  exact SB.mul hz (fun t' k => ⟨.str _, H, I.tok _, ⟨_, rfl⟩, q⟩)
/-- all tuples stay -/
def KTu (H H' : Hp) : Prop := ∀ x xs, H x = some (.tup xs) → H' x = some (.tup xs)
theorem KTu.refl (H : Hp) : KTu H H := fun _ _ h => h
theorem KTu.trans {H H1 H2 : Hp} (a : KTu H H1) (b : KTu H1 H2) : KTu H H2 := fun x xs h => b x xs (a x xs h)
theorem Same.kt {H H' : Hp} (a : Same H H') : KTu H H' := fun x xs h => a x _ h
theorem Kp.kt {b : Addr} {c : Int} {H H' : Hp} (k : Kp [b] H H') (B : BoxAt H b c) : KTu H H' := fun x xs h => k x _ (fun z => by
  obtain ⟨ys, h1, _⟩ := B
  rw [List.mem_singleton.mp z, h1] at h
  cases h) h
theorem kt_upd {H : Hp} {p : Addr} {o : HO} (h : ∀ xs, H p ≠ some (.tup xs)) : KTu H (upd H p o) := fun x xs e => by
  rw [upd_ne (fun z => h xs (by rw [← z]; exact e))]
  exact e
theorem kt_new {H : Hp} {p : Addr} {o : HO} (h : H p = none) : KTu H (upd H p o) := kt_upd fun xs e => by rw [h] at e; cases e
theorem kt_put {H : Hp} {p : Addr} {o u : HO} (h : H p = some u) (n : ∀ xs, u ≠ .tup xs) : KTu H (upd H p o) := kt_upd fun xs e => by
  rw [h] at e
  exact n xs (Option.some.inj e)
theorem nb_of {H : Hp} {b p : Addr} {c : Int} (B : BoxAt H b c) (n : H p = none) : p ≠ b := fun z => by
  obtain ⟨xs, h1, _⟩ := B
  rw [z, h1] at n
  cases n
theorem kp_new {H H' : Hp} {b p : Addr} {o : HO} (k : Kp [b] H H') (n : H' p = none) : Kp [b] H (upd H' p o) := fun x u nx e => same_upd n _ _ (k _ _ nx e)
theorem kp_free {H H' : Hp} {b p : Addr} (k : Kp [b] H H') (nb : p ≠ b) (n : H' p = none) : H p = none := by
  cases h : H p with
  | none => rfl
  | some o =>
    rw [k p o (fun z => nb (List.mem_singleton.mp z)) h] at n
    cases n
theorem ixAt {n m : Nat} (h : m < n) : ixN n (m : Int) = some m := by
  have h1 : (0 : Int) ≤ (m : Int) := by omega
  have h2 : (m : Int) < (n : Int) := by omega
  simp only [ixN, h1, h2, if_true, Int.toNat_natCast]
theorem amt_app {ns : List Int} {n : Int} (h : Amt ns) (h0 : 0 ≤ n) (h1 : n ≤ 1000000000000) : Amt (ns ++ [n]) := fun x hx => by
  rcases List.mem_append.mp hx with hx | hx
  · exact h x hx
  · rw [List.mem_singleton.mp hx]
    exact ⟨h0, h1⟩
theorem kp_put {H H' : Hp} {b p : Addr} {o : HO} (k : Kp [b] H H') (n : H p = none) : Kp [b] H (upd H' p o) := fun x u nx e => by
  rw [upd_ne (ne_of_none e n)]
  exact k _ _ nx e
theorem sIx_last (n d : Nat) : HT.sIx n d (some (-1)) = n - 1 := by
  show (if (-1 : Int) < 0 then ((-1 : Int) + (n : Int)).toNat else min (-1 : Int).toNat n) = n - 1
  rw [if_pos (by decide)]
  omega
/-- a gang -/
structure Gang where
  name : Str
  guild : Str
  rank : Int
  many : Int
  want : List Int
  how : Str
  len : Int
def Gang.flat (G : Gang) (w : Addr) : List V := [.str G.name, .str G.guild, .int G.rank, .int G.many, .ref w, .str G.how, .int G.len]
def GangAt (H : Hp) (g : Addr) (G : Gang) : Prop := ∃ w, H g = some (.tup (G.flat w)) ∧ H w = some (.tup (G.want.map V.int))
def RowAt (H : Hp) (r : Addr) (R : Gang × Int) : Prop := ∃ g, H r = some (.tup [.ref g, .int R.2]) ∧ GangAt H g R.1
theorem GangAt.kt {H H' : Hp} {g : Addr} {G : Gang} (k : KTu H H') (h : GangAt H g G) : GangAt H' g G := by
  obtain ⟨w, h1, h2⟩ := h
  exact ⟨w, k _ _ h1, k _ _ h2⟩
theorem RowAt.kt {H H' : Hp} {r : Addr} {R : Gang × Int} (k : KTu H H') (h : RowAt H r R) : RowAt H' r R := by
  obtain ⟨g, h1, h2⟩ := h
  exact ⟨g, k _ _ h1, h2.kt k⟩
def hows : List Str := ["any", "apart", "near", "wide"]
structure GangOk (gs : List Str) (wr : Nat) (G : Gang) : Prop where
  guild : G.guild ∈ gs
  wlen : G.want.length = wr
  amt : Amt G.want
  some : ∃ n ∈ G.want, n ≠ 0
  m1 : 1 ≤ G.many
  m60 : G.many ≤ 60
  r0 : 0 ≤ G.rank
  r9 : G.rank ≤ 9
  l1 : 1 ≤ G.len
  l6 : G.len ≤ 1000000
  how : G.how ∈ hows
def spGang : Sp := fun vs H Q _ => ∃ (b gl : Addr) (c : Int) (name : Str) (gs : List Str) (wr : Nat) (wide : Int), vs = [.ref b, .str name, .ref gl, .int (wr : Int), .int wide] ∧ BoxAt H b c ∧ c ≤ 10000000 ∧ H gl = some (.lst (gs.map V.str)) ∧ 1 ≤ gs.length ∧ gs.length ≤ 12 ∧ 1 ≤ wr ∧ wr ≤ 8 ∧ 1 ≤ wide ∧ wide ≤ 1000000000000 ∧
  ∀ g G H', GangOk gs wr G → G.name = name → Kp [b] H H' → BoxAt H' b (c + 20) → H g = none → GangAt H' g G → Q (.ref g) H'
def spDue : Sp := fun vs H Q _ => ∃ (b : Addr) (c : Int) (wr : Nat) (wide : Int), vs = [.ref b, .int (wr : Int), .int wide] ∧ BoxAt H b c ∧ c ≤ 10000000 ∧ 1 ≤ wr ∧ wr ≤ 8 ∧ 1 ≤ wide ∧ wide ≤ 1000000000000 ∧
  ∀ p ns H', Amt ns → ns.length = wr → Kp [b] H H' → BoxAt H' b (c + 20) → H p = none → H' p = some (.tup (ns.map V.int)) → Q (.ref p) H'
/-- lists of boxes' letters and of texts are unlike -/
theorem box_strs {H : Hp} {b p : Addr} {c : Int} {zs : List Str} (B : BoxAt H b c) (h : H p = some (.lst (zs.map V.str))) : p ≠ b := fun z => by
  obtain ⟨xs, h1, d, m, t, rfl, _⟩ := B
  rw [z, h1] at h
  cases zs with
  | nil => cases h
  | cons z1 zs => cases h
theorem box_refs {H : Hp} {b p : Addr} {c : Int} {as : List Addr} (B : BoxAt H b c) (h : H p = some (.lst (as.map V.ref))) : p ≠ b := fun z => by
  obtain ⟨xs, h1, d, m, t, rfl, _⟩ := B
  rw [z, h1] at h
  cases as with
  | nil => cases h
  | cons z1 zs => cases h
theorem atL {xs : List V} {v : V} {r : Int} (h0 : 0 ≤ r) (h : xs[r.toNat]? = some v) : atI xs r = some v := by
  have := atI_nat (xs := xs) (j := r.toNat) h
  rwa [Int.toNat_of_nonneg h0] at this
end My

namespace My
open PySem PySem.Spec PyProof.Rows L2 GX GxR
theorem vals_int : ∀ {ns : List Int} {us : List Value}, Vals (ns.map V.int) us → ∀ (i : Nat) (v : Value), us[i]? = some v → ∃ n t, ns[i]? = some n ∧ v = .int n t
  | [], _, .nil, _, _, h => by simp at h
  | n :: ns, _, .cons r rs, 0, v, h => by
    obtain ⟨t, rfl⟩ := r
    cases h
    exact ⟨n, t, rfl, rfl⟩
  | n :: ns, _, .cons r rs, i + 1, v, h => vals_int rs i v (by simpa using h)
/-- any(xs), xs a list of whole numbers -/
def rAnyI (K : PySem.W.Frag) : List V → Hp → VK → Prop := fun vs H Q => ∃ (a : Addr) (ns : List Int), vs = [V.ref a] ∧ SqL K H a (ns.map V.int) ∧ Q (.bl (ns.any fun n => n != 0)) H
theorem any_at {ns : List Int} : (List.range ns.length).any (fun i => (ns.map fun n => n != 0).getD i false) = ns.any fun n => n != 0 := by
  have h := any_range (ns.map fun n => n != 0)
  rw [List.length_map] at h
  rw [h, List.any_map]
  rfl
theorem cr_anyI {X : Cx} (hc : X.calm = true) : CallR X (.builtin "any") (rAnyI X.K) := by
  intro pins s σ H vs us Q I r h
  obtain ⟨a, ns, rfl, hs, q⟩ := h
  obtain ⟨its, rv, hl, _⟩ := I.list hs
  rw [Vals.ref1 r]
  have len : its.length = ns.length := by
    have := Paired.length rv
    rw [List.length_map] at this
    exact this.symm
  refine call_any_walk (iter_any hl.isList fun s₂ e2 st hne => ?_)
  subst e2
  have tr : TruthOf X.prog X.w X.A.in1 (fun i v => its.toArray[i]? = some v) (fun i => (ns.map fun n => n != 0).getD i false) := fun i v s Q' E hv hq => by
    obtain ⟨n, t, hn, rfl⟩ := vals_int rv i v (by simpa using hv)
    have hg : (ns.map fun n => n != 0).getD i false = (n != 0) := by rw [List.getD_eq_getElem?_getD, List.getElem?_map, hn] <;> rfl
    have hq' : Q' ((ns.map fun n => n != 0).getD i false) s := hq
    rw [hg] at hq'
    exact PySem.P.truthy_int hq'
  refine ⟨_, _, _, _, _, _, _, rfl, Walks.list (A := X.A.in1) (I.ok.hd hc) _ a hne its.toArray, st, tr, fun h' tk hk => ?_⟩
  refine ⟨.bl _, H, I.kept fun b o eo => hk b o (fun hm => ?_) (Heap.get?_push_of_some _ eo), ?_, q⟩
  · rcases List.mem_cons.mp hm with e1 | hm
    · rw [e1] at eo
      exact absurd (Heap.lt_size eo) (Nat.lt_irrefl _)
    · cases hm
  · rw [List.size_toArray, len, any_at]
    rfl
end My

namespace My
open PySem PySem.Spec PyProof.Rows L2 GX GxR
def topS (i : Nat) : Stmt := PySem.Challenge.pw_clusterhall_k11_left_over.main.body.getD i (.Pass ⟨0, 0, 0, 0⟩)
abbrev sBox : Stmt := topS 29
abbrev sTake : Stmt := topS 30
abbrev sNumber : Stmt := topS 31
abbrev sAmount : Stmt := topS 32
abbrev nAm : List Str := ["_law_box_here", "_law_wares", "_law_top", "_law_k"]
theorem scBox : FnScope ["_law_script", "_law_k", "_law_cell"] ["_law_script", "_law_k"] (defScope sBox) := ⟨rfl, rfl, rfl, by decide +kernel, rfl, by decide +kernel, by decide +kernel⟩
theorem scTake : FnScope ["_law_box_here", "_law_many", "_law_found", "_law_once"] ["_law_box_here", "_law_many"] (defScope sTake) := ⟨rfl, rfl, rfl, by decide +kernel, rfl, by decide +kernel, by decide +kernel⟩
theorem scNumber : FnScope ["_law_box_here", "_law_top"] ["_law_box_here", "_law_top"] (defScope sNumber) := ⟨rfl, rfl, rfl, by decide +kernel, rfl, by decide +kernel, by decide +kernel⟩
theorem scAmount : FnScope nAm ["_law_box_here", "_law_wares", "_law_top"] (defScope sAmount) := ⟨rfl, rfl, rfl, by decide +kernel, rfl, by decide +kernel, by decide +kernel⟩
/-- a drawing box of the books' laws -/
def Box2 (xs : List V) : Prop := ∃ d m : Int, xs = [.int d, .int m] ∧ 0 ≤ d ∧ 0 ≤ m ∧ m < 2147483647
def Bt (H : Hp) (b : Addr) : Prop := ∃ xs, H b = some (.lst xs) ∧ Box2 xs
theorem Bt.same {H H' : Hp} {b : Addr} (s : Same H H') (h : Bt H b) : Bt H' b := by
  obtain ⟨xs, h1, h2⟩ := h
  exact ⟨xs, s _ _ h1, h2⟩
theorem Bt.nb {H : Hp} {b p : Addr} (B : Bt H b) (n : H p = none) : p ≠ b := fun z => by
  obtain ⟨xs, h1, _⟩ := B
  rw [z, h1] at n
  cases n
theorem Bt.put {H H0 : Hp} {b p : Addr} {o : HO} (B : Bt H b) (n : p ≠ b) : Bt (upd H p o) b := by
  obtain ⟨xs, h1, h2⟩ := B
  exact ⟨xs, by rw [upd_ne (Ne.symm n)]; exact h1, h2⟩
theorem nmb {b p : Addr} (n : p ≠ b) : p ∉ [b] := fun z => n (List.mem_singleton.mp z)
theorem fl0 (b : Bool) : (0 : Int) ≤ (if b = true then (1 : Int) else 0) := by cases b <;> decide
theorem fl1 (b : Bool) : -(2 ^ 64) < (if b = true then (1 : Int) else 0) ∧ (if b = true then (1 : Int) else 0) < 2 ^ 64 := by cases b <;> decide
def spBox2 (K : PySem.W.Frag) : Sp := fun vs H Q _ => ∃ (a : Addr) (ns : List Int) (k : Nat), vs = [.ref a, .int (k : Int)] ∧ SqL K H a (ns.map V.int) ∧ ∀ p xs, H p = none → Box2 xs → Q (.ref p) (upd H p (.lst xs))
def spTake2 : Sp := fun vs H Q _ => ∃ (b : Addr) (many : Int), vs = [.ref b, .int many] ∧ Bt H b ∧ 0 < many ∧ many ≤ 1152921504606846976 ∧ ∀ r H', 0 ≤ r → r < many → Kp [b] H H' → Bt H' b → Q (.int r) H'
def spNumber : Sp := fun vs H Q _ => ∃ (b : Addr) (top : Int), vs = [.ref b, .int top] ∧ Bt H b ∧ 0 ≤ top ∧ top ≤ 1000000000000 ∧ ∀ n H', 0 ≤ n → n ≤ top → Kp [b] H H' → Bt H' b → Q (.int n) H'
def spAmount2 : Sp := fun vs H Q _ => ∃ (b : Addr) (k : Nat) (top : Int), vs = [.ref b, .int (k : Int), .int top] ∧ Bt H b ∧ k ≤ 100 ∧ 0 ≤ top ∧ top ≤ 1000000000000 ∧
  ∀ (p : Addr) (ns : List Int) (H' : Hp), (∀ n ∈ ns, 0 ≤ n ∧ n ≤ top) → ns.length = k → Kp [b] H H' → Bt H' b → H p = none → H' p = some (.tup (ns.map V.int)) → Q (.ref p) H'
section
variable {P : Program} {w : World} {K : PySem.W.Frag} {mg : Str → Option Value} {base : Heap}
theorem ok_box {f : Addr} {fd : FuncData} {k : Nat} (F : Fun K "_law_box" "_law_box" sBox f fd) (T : Txt mg) : FnOk P w K mg base CX0 (k + 1) f fd ["_law_script", "_law_k"] (spBox2 K) := by
  refine F.ok scBox (fun vs H Q E h => ?_) (fun cdv A outer s H vs Q E hr h => ?_)
  · obtain ⟨a, ns, k, rfl, _⟩ := h
    rfl
  · obtain ⟨a, ns, k, rfl, hS, q⟩ := h
    refine ⟨_, pss_cons (ps_set (i := 2) scBox.nd rfl (.inl rfl) pe_int)
      (pss_cons (ps_if (pt_cmpR op_gt (pe_callB call_len_seq (by rfl) T.len PySem.boot_len (pa_cons (pv 0) pa_nil)) pe_int (nomark _)) (pss_one (ps_set (i := 2) scBox.nd rfl (.inl rfl) (pe_ix ix_list (pv 0) (pe_op op_mod (pv 1) (pe_callB call_len_seq (by rfl) T.len PySem.boot_len (pa_cons (pv 0) pa_nil))) (fun _ _ => rfl)))) pss_nil)
      (pss_one (ps_ret (pe_lst (pa_cons (pe_op op_mul (pe_callB call_abs (by rfl) T.abs (by decide +kernel) (pa_cons (pv 2) pa_nil)) (pe_callTy call_int1 (by rfl) T.int bt_int (pa_cons (pe_cmpR op_ge (pe_callB call_abs (by rfl) T.abs (by decide +kernel) (pa_cons (pv 2) pa_nil)) (pe_op op_pow pe_int pe_int) (nomark _)) pa_nil)))
        (pa_cons (pe_op op_mod (pe_op op_add (pe_op op_add (pe_op op_mul (pe_op op_mod (pv 2) pe_int) pe_int) (pe_op op_mul pe_int (pv 1))) pe_int) pe_int) pa_nil)))))), ?_⟩
    have fin : ∀ (cell : Int) (p : Addr), H p = none → Q (.ref p) (upd H p (.lst [.int ((if cell < 0 then -cell else cell) * (if decide ((10 : Int) ^ (18 : Int).toNat ≤ (if cell < 0 then -cell else cell)) = true then (1 : Int) else 0)), .int ((cell % 2147483647 * 48271 + 7919 * (k : Int) + 17) % 2147483647)])) := fun cell p np => by
      refine q p _ np ⟨_, _, rfl, Int.mul_nonneg ?_ ?_, Int.emod_nonneg _ (by decide), Int.emod_lt_of_pos _ (by decide)⟩
      · split <;> omega
      · exact fl0 _
    refine ⟨_, rfl, a, _, rfl, .inl hS, _, 0, rfl, rfl, _, rfl, ite2 (fun e => ?_) (fun e => ?_)⟩
    · have e1 : (0 : Int) < ((ns.map V.int).length : Int) := of_decide_eq_true e
      have e2 := e1
      rw [List.length_map] at e2
      have hm : k % ns.length < ns.length := Nat.mod_lt _ (by omega)
      refine ⟨_, rfl, _, rfl, _, rfl, a, _, rfl, .inl hS, (k : Int), _, rfl, rfl, e1, a, _, _, .int ns[k % ns.length], rfl, rfl, hS, ?_, ?_⟩
      · rw [List.length_map, show ((k : Int) % (ns.length : Int)) = ((k % ns.length : Nat) : Int) from rfl]
        exact atI_nat (by rw [List.getElem?_map, List.getElem?_eq_getElem hm]; rfl)
      · refine ⟨_, rfl, _, rfl, _, rfl, _, rfl, 10, 18, rfl, rfl, ⟨by decide, by decide, by decide⟩, _, _, rfl, rfl, .inr ⟨_, rfl, _, _, rfl, rfl, .inr (fl1 _), ?_⟩⟩
        refine ⟨_, rfl, _, 2147483647, rfl, rfl, (by show (0 : Int) < 2147483647; decide), _, 48271, rfl, rfl, .inr ⟨by decide, by decide⟩, _, rfl, 7919, (k : Int), rfl, rfl, .inl ⟨by decide, by decide⟩, _, _, rfl, rfl, _, 17, rfl, rfl, _, 2147483647, rfl, rfl, (by show (0 : Int) < 2147483647; decide), by show 2 ≤ sizeLine; decide, fun p np => fin _ p np⟩
    · refine ⟨_, rfl, _, rfl, _, rfl, _, rfl, 10, 18, rfl, rfl, ⟨by decide, by decide, by decide⟩, _, _, rfl, rfl, .inr ⟨_, rfl, _, _, rfl, rfl, .inr (fl1 _), ?_⟩⟩
      refine ⟨_, rfl, _, 2147483647, rfl, rfl, (by show (0 : Int) < 2147483647; decide), _, 48271, rfl, rfl, .inr ⟨by decide, by decide⟩, _, rfl, 7919, (k : Int), rfl, rfl, .inl ⟨by decide, by decide⟩, _, _, rfl, rfl, _, 17, rfl, rfl, _, 2147483647, rfl, rfl, (by show (0 : Int) < 2147483647; decide), by show 2 ≤ sizeLine; decide, fun p np => fin _ p np⟩
theorem ok_take {f : Addr} {fd : FuncData} {k : Nat} (F : Fun K "_law_take" "_law_take" sTake f fd) : FnOk P w K mg base CX0 (k + 1) f fd ["_law_box_here", "_law_many"] spTake2 := by
  refine F.ok scTake (fun vs H Q E h => ?_) (fun cdv A outer s H vs Q E hr h => ?_)
  · obtain ⟨b, many, rfl, _⟩ := h
    rfl
  · obtain ⟨b, many, rfl, ⟨xs, hb, d, m, rfl, hd, hm, hm2⟩, hmany, hmany2, q⟩ := h
    refine ⟨_, pss_cons (ps_if (pt_cmpR op_gt (pe_ix ix_list (pv 0) pe_int (fun _ _ => rfl)) pe_int (nomark _))
        (pss_cons (ps_set (i := 2) scTake.nd rfl (.inl rfl) (pe_op op_mod (pe_ix ix_list (pv 0) pe_int (fun _ _ => rfl)) (pv 1)))
        (pss_cons (ps_asg (pe_op op_fdivW (pe_ix ix_list (pv 0) pe_int (fun _ _ => rfl)) (pv 1)) (pg_sub (pv 0) pe_int set_list))
        (pss_one (ps_ret (pv 2))))) pss_nil)
      (pss_cons (ps_asg (pe_op op_mod (pe_op op_add (pe_op op_mul (pe_ix ix_list (pv 0) pe_int (fun _ _ => rfl)) pe_int) pe_int) pe_int) (pg_sub (pv 0) pe_int set_list))
      (pss_cons (ps_set (i := 3) scTake.nd rfl (.inl rfl) (pe_op op_mod (pe_op op_mul (pe_ix ix_list (pv 0) pe_int (fun _ _ => rfl)) (pe_op op_add (pe_op op_mod (pe_ix ix_list (pv 0) pe_int (fun _ _ => rfl)) pe_int) pe_int)) pe_int))
      (pss_one (ps_ret (pe_op op_mod (pe_op op_mod (pe_op op_mul (pv 3) (pe_op op_add (pe_op op_mod (pv 3) pe_int) pe_int)) pe_int) (pv 1)))))), ?_⟩
    refine ⟨.ref b, rfl, b, _, 0, .int d, rfl, rfl, SqL.of hb, rfl, _, 0, rfl, rfl, _, rfl, ite2 (fun e => ?_) (fun e => ?_)⟩
    · refine ⟨.ref b, rfl, b, _, 0, .int d, rfl, rfl, SqL.of hb, rfl, .int many, rfl, d, many, rfl, rfl, hmany, ?_⟩
      refine ⟨.ref b, rfl, b, _, 0, .int d, rfl, rfl, SqL.of hb, rfl, .int many, rfl, d, many, rfl, rfl, wideOk hmany hmany2, .ref b, rfl, b, _, 0, 0, rfl, rfl, hb, rfl, _, rfl, ?_⟩
      exact q _ _ (Int.emod_nonneg _ (by omega)) (Int.emod_lt_of_pos _ hmany) (kp_upd (List.mem_singleton.mpr rfl)) ⟨_, upd_same, d / many, m, rfl, Int.ediv_nonneg hd (by omega), hm, hm2⟩
    · obtain ⟨m3, hm3⟩ : ∃ m3 : Int, (m * 48271 + 12345) % 2147483647 = m3 := ⟨_, rfl⟩
      have m1 : 0 ≤ m3 := by rw [← hm3]; exact Int.emod_nonneg _ (by decide)
      have m2 : m3 < 2147483647 := by rw [← hm3]; exact Int.emod_lt_of_pos _ (by decide)
      have u1 : upd H b (.lst [.int d, .int ((m * 48271 + 12345) % 2147483647)]) b = some (.lst [.int d, .int m3]) := by rw [hm3, upd_same]
      refine ⟨.ref b, rfl, b, _, 1, .int m, rfl, rfl, SqL.of hb, rfl, m, 48271, rfl, rfl, .inr ⟨by decide, by decide⟩, _, 12345, rfl, rfl, _, 2147483647, rfl, rfl, (by show (0 : Int) < 2147483647; decide), .ref b, rfl, b, _, 1, 1, rfl, rfl, hb, rfl, ?_⟩
      refine ⟨.ref b, rfl, b, _, 1, .int m3, rfl, rfl, SqL.of u1, rfl, .ref b, rfl, b, _, 1, .int m3, rfl, rfl, SqL.of u1, rfl, m3, 1009, rfl, rfl, (by show (0 : Int) < 1009; decide), _, 3, rfl, rfl, m3, _, rfl, rfl, .inl ⟨by omega, by omega⟩, _, 2147483629, rfl, rfl, (by show (0 : Int) < 2147483629; decide), ?_⟩
      obtain ⟨once, hon⟩ : ∃ once : Int, m3 * (m3 % 1009 + 3) % 2147483629 = once := ⟨_, rfl⟩
      have o1 : 0 ≤ once := by rw [← hon]; exact Int.emod_nonneg _ (by decide)
      have o2 : once < 2147483629 := by rw [← hon]; exact Int.emod_lt_of_pos _ (by decide)
      have hon' : V.int (m3 * (m3 % 1009 + 3) % 2147483629) = .int once := congrArg V.int hon
      refine ⟨_, rfl, _, rfl, once, 997, hon', rfl, (by show (0 : Int) < 997; decide), _, 5, rfl, rfl, once, _, hon', rfl, .inl ⟨by omega, by omega⟩, _, 998244353, rfl, rfl, (by show (0 : Int) < 998244353; decide), .int many, rfl, _, many, rfl, rfl, hmany, ?_⟩
      exact q _ _ (Int.emod_nonneg _ (by omega)) (Int.emod_lt_of_pos _ hmany) (kp_upd (List.mem_singleton.mpr rfl)) ⟨_, u1, d, m3, rfl, hd, m1, m2⟩
theorem ok_number {f fT : Addr} {fd fdT : FuncData} {k : Nat} (F : Fun K "_law_number" "_law_number" sNumber f fd) (T : Txt mg) (GT : FnOk P w K mg base CX0 k fT fdT ["_law_box_here", "_law_many"] spTake2) (mT : mg "_law_take" = some (.ref fT)) (kT : PySem.W.keepIn K (.ref fT) = true) (bT : Binds K fdT ["_law_box_here", "_law_many"] [])
    : FnOk P w K mg base CX0 (k + 1) f fd ["_law_box_here", "_law_top"] spNumber := by
  refine F.ok scNumber (fun vs H Q E h => ?_) (fun cdv A outer s H vs Q E hr h => ?_)
  · obtain ⟨b, top, rfl, _⟩ := h
    rfl
  · obtain ⟨b, top, rfl, hB, t0, t1, q⟩ := h
    refine ⟨_, pss_cons (ps_if (pt_cmpR op_eq (pe_call GT hr (by rfl) mT kT bT .nil pass0 (pa_cons (pv 0) (pa_cons pe_int pa_nil))) pe_int (nomark _)) (pss_one (ps_ret (pe_ix ix_list (pe_lst (pa_cons pe_int (pa_cons (pv 1) (pa_cons (pe_callB (call_max2 rfl) (by rfl) T.max (by decide +kernel) (pa_cons pe_int (pa_cons (pe_op op_sub (pv 1) pe_int) pa_nil))) (pa_cons (pe_callB (call_min2 rfl) (by rfl) T.min (by decide +kernel) (pa_cons pe_int (pa_cons (pv 1) pa_nil))) pa_nil))))) (pe_call GT hr (by rfl) mT kT bT .nil pass0 (pa_cons (pv 0) (pa_cons pe_int pa_nil))) (fun _ _ => rfl)))) pss_nil)
      (pss_one (ps_ret (pe_op op_mod (pe_op op_add (pe_op op_mul (pe_call GT hr (by rfl) mT kT bT .nil pass0 (pa_cons (pv 0) (pa_cons (pe_op op_pow pe_int pe_int) pa_nil))) (pe_op op_pow pe_int pe_int)) (pe_call GT hr (by rfl) mT kT bT .nil pass0 (pa_cons (pv 0) (pa_cons (pe_op op_pow pe_int pe_int) pa_nil)))) (pe_op op_add (pv 1) pe_int)))), ?_⟩
    refine ⟨_, rfl, b, 6, rfl, hB, by decide, by decide, fun r H1 r0 r1 k1 B1 => ⟨rfl, _, rfl, ite2 (fun e => ?_) (fun e => ?_)⟩⟩
    · refine ⟨_, rfl, _, rfl, top, 1, rfl, rfl, 0, _, rfl, _, rfl, 1, top, rfl, by show 4 ≤ sizeLine; decide, fun l nl => ?_⟩
      refine ⟨_, rfl, b, 4, rfl, B1.same (same_upd nl), by decide, by decide, fun r2 H2 a2 b2 k2 B2 => ?_⟩
      have el := k2 _ _ (nmb (B1.nb nl)) upd_same
      have hv : ∃ n : Int, 0 ≤ n ∧ n ≤ top ∧ atI [V.int 0, .int top, .int (if top - 1 > 0 then top - 1 else 0), .int (if top < 1 then top else 1)] r2 = some (.int n) := by
        obtain ⟨m, rfl⟩ : ∃ m : Nat, r2 = (m : Int) := ⟨r2.toNat, by omega⟩
        rcases m with _ | _ | _ | _ | m
        · exact ⟨0, by omega, by omega, rfl⟩
        · exact ⟨top, by omega, by omega, rfl⟩
        · exact ⟨_, by split <;> omega, by split <;> omega, rfl⟩
        · exact ⟨_, by split <;> omega, by split <;> omega, rfl⟩
        · exact absurd b2 (by omega)
      obtain ⟨n, n0, n1, hn⟩ := hv
      exact ⟨l, _, r2, .int n, rfl, rfl, SqL.of el, hn, q n H2 n0 n1 ((kp_new k1 nl).trans k2) B2⟩
    · refine ⟨_, rfl, 10, 6, rfl, rfl, ⟨by decide, by decide, by decide⟩, b, _, rfl, B1, by decide, by decide, fun r2 H2 a2 b2 k2 B2 => ?_⟩
      refine ⟨10, 6, rfl, rfl, ⟨by decide, by decide, by decide⟩, r2, _, rfl, rfl, .inr ⟨by decide, by decide⟩, ?_⟩
      refine ⟨_, rfl, 10, 6, rfl, rfl, ⟨by decide, by decide, by decide⟩, b, _, rfl, B2, by decide, by decide, fun r3 H3 a3 b3 k3 B3 => ⟨_, r3, rfl, rfl, _, rfl, top, 1, rfl, rfl, _, top + 1, rfl, rfl, (by show 0 < top + 1; omega), ?_⟩⟩
      refine q _ H3 (Int.emod_nonneg _ (by omega)) ?_ ((k1.trans k2).trans k3) B3
      have := Int.emod_lt_of_pos (r2 * 10 ^ (6 : Int).toNat + r3) (show 0 < top + 1 by omega)
      omega
theorem ok_amount {f fN : Addr} {fd fdN : FuncData} {k : Nat} (F : Fun K "_law_amount" "_law_amount" sAmount f fd) (T : Txt mg) (GN : FnOk P w K mg base CX0 k fN fdN ["_law_box_here", "_law_top"] spNumber) (mN : mg "_law_number" = some (.ref fN)) (kN : PySem.W.keepIn K (.ref fN) = true) (bN : Binds K fdN ["_law_box_here", "_law_top"] [])
    : FnOk P w K mg base CX0 (k + 1) f fd ["_law_box_here", "_law_wares", "_law_top"] spAmount2 := by
  refine F.ok scAmount (fun vs H Q E h => ?_) (fun cdv A outer s H vs Q E hr h => ?_)
  · obtain ⟨b, k, top, rfl, _⟩ := h
    rfl
  · obtain ⟨b, k, top, rfl, hB, k100, t0, t1, q⟩ := h
    refine ⟨_, pss_one (ps_ret (pe_callTy call_tuple_of (by rfl) T.tup bt_tuple (pa_cons (pe_lc (own := [("_law_k", 3)]) (g := gName 3) (tt := tYes) rfl scAmount.nd
        (pi_range1 (by rfl) T.range (pa_cons (pv 1) pa_nil)) (blkOk_by (own := [("_law_k", 3)]) (N := nAm) (sc := defScope sAmount) (by decide +kernel))
        (fun _ _ _ _ _ => pg_name (i := 3) scAmount.nd rfl (Or.inl rfl)) (fun _ _ _ _ _ => pts_nil)
        (fun _ _ _ _ _ => pe_call GN hr (by rfl) mN kN bN .nil pass0 (pa_cons (pv 0) (pa_cons (pv 2) pa_nil)))) pa_nil))), ?_⟩
    refine ⟨_, rfl, (k : Int), rfl, by omega, by omega, fun D nD => ?_⟩
    rw [Int.toNat_natCast]
    have Db := hB.nb nD
    refine lc_range (lo := 0) (n := k) (fun j H' => Kp [b] H H' ∧ Bt H' b ∧ ∃ ns : List Int, H' D = some (.lst (ns.map V.int)) ∧ ns.length = j ∧ ∀ n ∈ ns, 0 ≤ n ∧ n ≤ top) ⟨Same.kp _ (same_upd nD), hB.same (same_upd nD), [], upd_same, rfl, fun _ h => (nomatch h)⟩ (fun j H4 hj p => ?_) (fun H4 p => ?_)
    · obtain ⟨p1, p2, ns, p3, p4, p5⟩ := p
      refine ⟨rfl, ?_⟩
      refine ⟨_, rfl, _, rfl, b, top, rfl, p2, t0, t1, fun n H5 n0 n1 k5 B5 => ⟨_, k5 _ _ (nmb Db) p3, ?_, kp_put (p1.trans k5) nD, B5.put (H0 := H) Db, ns ++ [n], ?_, ?_, fun m hm => ?_⟩⟩
      · rw [List.length_map, p4]
        exact small1000 (by omega)
      · rw [upd_same, List.map_append]
        rfl
      · rw [List.length_append, p4]
        rfl
      · rcases List.mem_append.mp hm with z | z
        · exact p5 m z
        · rw [List.mem_singleton.mp z]
          exact ⟨n0, n1⟩
    · obtain ⟨p1, p2, ns, p3, p4, p5⟩ := p
      refine ⟨D, _, rfl, .inl ⟨SqL.of p3, fun p np => ?_⟩⟩
      exact q p ns _ p5 p4 (kp_new p1 np) (p2.same (same_upd np)) (kp_free p1 (p2.nb np) np) upd_same
end
end My

namespace My
open PySem PySem.Spec PyProof.Rows L2 GX GxR
abbrev sName : Stmt := topS 33
theorem scName : FnScope ["_law_n"] ["_law_n"] (defScope sName) := ⟨rfl, rfl, rfl, by decide +kernel, rfl, by decide +kernel, by decide +kernel⟩
def abc : List Nat := (Str.ofString "abcdefghijklmnopqrstuvwxyz").cps.toList
def tails : List Str := ["", "q", "wz", "longest"]
def nameOf (i j : Nat) : Str := (⟨#[abc.getD i 0]⟩ : Str) ++ tails.getD j ""
theorem name_ok : ∀ i, i < 26 → ∀ j, j < 4 → PySem.PyData.strOk (nameOf i j) = true ∧ (nameOf i j).length ≤ 8 := by decide +kernel
def spName : Sp := fun vs H Q _ => ∃ n : Nat, vs = [.int (n : Int)] ∧ ∀ z H', Same H H' → PySem.PyData.strOk z = true → z.length ≤ 8 → z = nameOf (n % 26) (n / 26 % 4) → Q (.str z) H'
section
variable {P : Program} {w : World} {K : PySem.W.Frag} {mg : Str → Option Value} {base : Heap}
theorem ok_name {f : Addr} {fd : FuncData} {k : Nat} (F : Fun K "_law_name" "_law_name" sName f fd) : FnOk P w K mg base CX0 (k + 1) f fd ["_law_n"] spName := by
  refine F.ok scName (fun vs H Q E h => ?_) (fun cdv A outer s H vs Q E hr h => ?_)
  · obtain ⟨n, rfl, _⟩ := h
    rfl
  · obtain ⟨n, rfl, q⟩ := h
    refine ⟨_, pss_one (ps_ret (pe_op op_add_str (pe_ix ix_str pe_str (pe_op op_mod (pv 0) pe_int) (fun _ _ => rfl)) (pe_ix ix_list (pe_lst (pa_cons pe_str (pa_cons pe_str (pa_cons pe_str (pa_cons pe_str pa_nil))))) (pe_op op_mod (pe_op op_fdiv (pv 0) pe_int) pe_int) (fun _ _ => rfl)))), ?_⟩
    have h26 : n % 26 < 26 := Nat.mod_lt _ (by decide)
    have h4 : n / 26 % 4 < 4 := Nat.mod_lt _ (by decide)
    obtain ⟨o1, o2⟩ := name_ok _ h26 _ h4
    have la : abc.length = 26 := by decide +kernel
    have g1 : atI abc ((n : Int) % 26) = some (abc.getD (n % 26) 0) := by
      have hlt : n % 26 < abc.length := by rw [la]; exact h26
      rw [show ((n : Int) % 26) = ((n % 26 : Nat) : Int) from rfl]
      refine atI_nat ?_
      rw [List.getElem?_eq_getElem hlt, List.getD_eq_getElem?_getD, List.getElem?_eq_getElem hlt]
      rfl
    have g2 : atI (tails.map V.str) ((n : Int) / 26 % 4) = some (.str (tails.getD (n / 26 % 4) "")) := by
      have hlt : n / 26 % 4 < tails.length := h4
      rw [show ((n : Int) / 26 % 4) = ((n / 26 % 4 : Nat) : Int) from rfl]
      refine atI_nat ?_
      rw [List.getElem?_map, List.getElem?_eq_getElem hlt, List.getD_eq_getElem?_getD, List.getElem?_eq_getElem hlt]
      rfl
    refine ⟨_, rfl, (n : Int), 26, rfl, rfl, (by show (0 : Int) < 26; decide), _, _, _, rfl, rfl, by decide +kernel, g1, by show 4 ≤ sizeLine; decide, fun l nl => ?_⟩
    refine ⟨_, rfl, (n : Int), 26, rfl, rfl, ⟨by decide, by decide⟩, _, 4, rfl, rfl, (by show (0 : Int) < 4; decide), l, _, _, _, rfl, rfl, SqL.of upd_same, g2, _, _, rfl, rfl, ?_, q _ _ (same_upd nl) o1 o2 rfl⟩
    have e : (nameOf (n % 26) (n / 26 % 4)).length = (⟨#[abc.getD (n % 26) 0]⟩ : Str).length + (tails.getD (n / 26 % 4) "").length := PySem.Str.length_append _ _
    have : (8 : Nat) ≤ sizeLine := by decide
    omega
end
end My

namespace My
open PySem PySem.Spec PyProof.Rows L2 GX GxR
abbrev sKeeping : Stmt := topS 34
theorem scKeeping : FnScope ["_law_box_here", "_law_wares", "_law_top", "_law_room"] ["_law_box_here"] (defScope sKeeping) := ⟨rfl, rfl, rfl, by decide +kernel, rfl, by decide +kernel, by decide +kernel⟩
/-- a keeping: at m its dict, at pr the room, at rd the rows by keys -/
structure MAt (H : Hp) (m pr rd : Addr) (ns : List Int) (top wide : Int) (rows : List (Str × V)) : Prop where
  dict : H m = some (.dK [(.inr "room", .ref pr), (.inr "top", .int top), (.inr "wide", .int wide), (.inr "rows", .ref rd)])
  room : H pr = some (.tup (ns.map V.int))
  rows : H rd = some (.dK (rows.map fun r => (.inr r.1, r.2)))
  len1 : 1 ≤ ns.length
  len8 : ns.length ≤ 8
  top0 : 0 ≤ top
  top1 : top ≤ 1000000000000
  wid0 : 1 ≤ wide
  wid1 : wide ≤ 1000000000
  num : ∀ n ∈ ns, 0 ≤ n ∧ n ≤ top
  ne : rd ≠ m
def spKeeping : Sp := fun vs H Q _ => ∃ b : Addr, vs = [.ref b] ∧ Bt H b ∧ ∀ m pr rd ns top wide H', MAt H' m pr rd ns top wide [] → Kp [b] H H' → Bt H' b → H m = none → H pr = none → H rd = none → Q (.ref m) H'
section
variable {P : Program} {w : World} {K : PySem.W.Frag} {mg : Str → Option Value} {base : Heap}
theorem ok_keeping {f fT fA : Addr} {fd fdT fdA : FuncData} {k : Nat} (F : Fun K "_law_keeping" "_law_keeping" sKeeping f fd) (T : Txt mg) (GT : FnOk P w K mg base CX0 k fT fdT ["_law_box_here", "_law_many"] spTake2) (mT : mg "_law_take" = some (.ref fT)) (kT : PySem.W.keepIn K (.ref fT) = true) (bT : Binds K fdT ["_law_box_here", "_law_many"] [])
    (GA : FnOk P w K mg base CX0 k fA fdA ["_law_box_here", "_law_wares", "_law_top"] spAmount2) (mA : mg "_law_amount" = some (.ref fA)) (kA : PySem.W.keepIn K (.ref fA) = true) (bA : Binds K fdA ["_law_box_here", "_law_wares", "_law_top"] [])
    : FnOk P w K mg base CX0 (k + 1) f fd ["_law_box_here"] spKeeping := by
  refine F.ok scKeeping (fun vs H Q E h => ?_) (fun cdv A outer s H vs Q E hr h => ?_)
  · obtain ⟨b, rfl, _⟩ := h
    rfl
  · obtain ⟨b, rfl, hB, q⟩ := h
    refine ⟨_, pss_cons (ps_set (i := 1) scKeeping.nd rfl (.inl rfl) (pe_ix ix_list (pe_lst (pa_cons pe_int (pa_cons pe_int (pa_cons pe_int (pa_cons pe_int pa_nil))))) (pe_call GT hr (by rfl) mT kT bT .nil pass0 (pa_cons (pv 0) (pa_cons pe_int pa_nil))) (fun _ _ => rfl)))
      (pss_cons (ps_set (i := 2) scKeeping.nd rfl (.inl rfl) (pe_ix ix_list (pe_lst (pa_cons pe_int (pa_cons pe_int (pa_cons (pe_op op_pow pe_int pe_int) pa_nil)))) (pe_call GT hr (by rfl) mT kT bT .nil pass0 (pa_cons (pv 0) (pa_cons pe_int pa_nil))) (fun _ _ => rfl)))
      (pss_cons (ps_set (i := 3) scKeeping.nd rfl (.inl rfl) (pe_call GA hr (by rfl) mA kA bA .nil pass0 (pa_cons (pv 0) (pa_cons (pv 1) (pa_cons (pv 2) pa_nil)))))
      (pss_cons (ps_if (pt_cmpR op_eq (pe_call GT hr (by rfl) mT kT bT .nil pass0 (pa_cons (pv 0) (pa_cons pe_int pa_nil))) pe_int (nomark _)) (pss_one (ps_set (i := 3) scKeeping.nd rfl (.inl rfl) (pe_callTy call_tuple_of (by rfl) T.tup bt_tuple (pa_cons (pe_op op_rep (pe_lst (pa_cons (pv 2) pa_nil)) (pv 1)) pa_nil)))) pss_nil)
      (pss_one (ps_ret (pe_disp (pps_cons pe_str (pv 3) (pps_cons pe_str (pv 2) (pps_cons pe_str (pe_ix ix_list (pe_lst (pa_cons pe_int (pa_cons pe_int (pa_cons (pe_op op_pow pe_int pe_int) pa_nil)))) (pe_call GT hr (by rfl) mT kT bT .nil pass0 (pa_cons (pv 0) (pa_cons pe_int pa_nil))) (fun _ _ => rfl)) (pps_cons pe_str pe_dnewK pps_nil)))) (by rfl) (by rfl) (fun z => by cases z) (by decide))))))), ?_⟩
    refine ⟨by show 4 ≤ sizeLine; decide, fun l1 n1 => ⟨_, rfl, b, 4, rfl, hB.same (same_upd n1), by decide, by decide, fun r1 H1 a1 b1 k1 B1 => ?_⟩⟩
    have e1 := k1 _ _ (nmb (hB.nb n1)) upd_same
    have hv1 : ∃ m : Nat, 1 ≤ m ∧ m ≤ 8 ∧ atI [V.int 1, .int 2, .int 3, .int 8] r1 = some (.int (m : Int)) := by
      obtain ⟨m, rfl⟩ : ∃ m : Nat, r1 = (m : Int) := ⟨r1.toNat, by omega⟩
      rcases m with _ | _ | _ | _ | m
      · exact ⟨1, by decide, by decide, rfl⟩
      · exact ⟨2, by decide, by decide, rfl⟩
      · exact ⟨3, by decide, by decide, rfl⟩
      · exact ⟨8, by decide, by decide, rfl⟩
      · exact absurd b1 (by omega)
    obtain ⟨wa, wa1, wa8, hwa⟩ := hv1
    have kk1 := (kp_new (o := .lst [V.int 1, .int 2, .int 3, .int 8]) (Kp.refl [b] H) n1).trans k1
    refine ⟨l1, _, r1, .int (wa : Int), rfl, rfl, SqL.of e1, hwa, ?_⟩
    refine ⟨10, 12, rfl, rfl, ⟨by decide, by decide, by decide⟩, by show 3 ≤ sizeLine; decide, fun l2 n2 => ⟨_, rfl, b, 3, rfl, B1.same (same_upd n2), by decide, by decide, fun r2 H2 a2 b2 k2 B2 => ?_⟩⟩
    have e2 := k2 _ _ (nmb (B1.nb n2)) upd_same
    have hv2 : ∃ tp : Int, 0 ≤ tp ∧ tp ≤ 1000000000000 ∧ atI [V.int 9, .int 30, .int (10 ^ (12 : Int).toNat)] r2 = some (.int tp) := by
      obtain ⟨m, rfl⟩ : ∃ m : Nat, r2 = (m : Int) := ⟨r2.toNat, by omega⟩
      rcases m with _ | _ | _ | m
      · exact ⟨9, by decide, by decide, rfl⟩
      · exact ⟨30, by decide, by decide, rfl⟩
      · exact ⟨1000000000000, by decide, by decide, rfl⟩
      · exact absurd b2 (by omega)
    obtain ⟨tp, tp0, tp1, htp⟩ := hv2
    have kk2 := (kp_new (o := .lst [V.int 9, .int 30, .int (10 ^ (12 : Int).toNat)]) kk1 n2).trans k2
    refine ⟨l2, _, r2, .int tp, rfl, rfl, SqL.of e2, htp, ?_⟩
    refine ⟨_, rfl, _, rfl, _, rfl, b, wa, tp, rfl, B2, by omega, tp0, tp1, fun p3 ns H3 hns len k3 B3 np3 e3 => ?_⟩
    have kk3 := kk2.trans k3
    have np3' : H p3 = none := kp_free kk2 (B2.nb np3) np3
    -- the end: the dict is written
    have fin : ∀ (pr : Addr) (rs : List Int) (H4 : Hp), (∀ n ∈ rs, 0 ≤ n ∧ n ≤ tp) → rs.length = wa → Kp [b] H H4 → Bt H4 b → H pr = none → H4 pr = some (.tup (rs.map V.int)) →
        ∀ p, H4 p = none → ∀ l, (upd H4 p (.dK [])) l = none → ∀ r H5, 0 ≤ r → r < 3 → Kp [b] (upd (upd H4 p (.dK [])) l (.lst [V.int 12, .int 40, .int (10 ^ (9 : Int).toNat)])) H5 → Bt H5 b →
        ∃ wd : Int, atI [V.int 12, .int 40, .int (10 ^ (9 : Int).toNat)] r = some (.int wd) ∧ ∀ rd, H5 rd = none → H5 p = some (.dK []) ∧ rd ≠ p ∧ Q (.ref p) (upd (upd H5 rd (.dK [])) p (.dK [(.inr "room", .ref pr), (.inr "top", .int tp), (.inr "wide", .int wd), (.inr "rows", .ref rd)])) := by
      intro pr rs H4 hrs lrs k4 B4 npr e4 p np l nl r H5 r0 r3 k5 B5
      have hv : ∃ wd : Int, 1 ≤ wd ∧ wd ≤ 1000000000 ∧ atI [V.int 12, .int 40, .int (10 ^ (9 : Int).toNat)] r = some (.int wd) := by
        obtain ⟨m, rfl⟩ : ∃ m : Nat, r = (m : Int) := ⟨r.toNat, by omega⟩
        rcases m with _ | _ | _ | m
        · exact ⟨12, by decide, by decide, rfl⟩
        · exact ⟨40, by decide, by decide, rfl⟩
        · exact ⟨1000000000, by decide, by decide, rfl⟩
        · exact absurd r3 (by omega)
      obtain ⟨wd, wd1, wd9, hwd⟩ := hv
      have pb := B4.nb np
      have prb : pr ≠ b := fun z => by
        obtain ⟨xs, h1, _⟩ := B4
        rw [z, h1] at e4
        cases e4
      have prp : pr ≠ p := ne_of_none e4 np
      have e5 : H5 pr = some (.tup (rs.map V.int)) := k5 _ _ (nmb prb) (same_upd nl _ _ (same_upd np _ _ e4))
      have p5 : H5 p = some (.dK []) := k5 _ _ (nmb pb) (same_upd nl _ _ upd_same)
      have kk5 : Kp [b] H H5 := (kp_new (kp_new k4 np) nl).trans k5
      have np' : H p = none := kp_free k4 pb np
      refine ⟨wd, hwd, fun rd nrd => ?_⟩
      have prd : rd ≠ p := (ne_of_none p5 nrd).symm
      refine ⟨p5, prd, q p pr rd rs tp wd _ ⟨upd_same, ?_, ?_, by omega, by omega, tp0, tp1, by omega, by omega, hrs, prd⟩ ?_ ?_ np' npr (kp_free kk5 (B5.nb nrd) nrd)⟩
      · rw [upd_ne prp]
        exact same_upd nrd _ _ e5
      · rw [upd_ne prd]
        exact upd_same
      · exact kp_put (kp_new kk5 nrd) np'
      · exact (B5.same (same_upd nrd)).put (H0 := H) pb
    refine ⟨_, rfl, b, 2, rfl, B3, by decide, by decide, fun r3 H4 a4 b4 k4 B4 => ⟨rfl, _, rfl, ite2 (fun e => ?_) (fun e => ?_)⟩⟩
    · refine ⟨_, rfl, by show 1 ≤ sizeLine; decide, fun l3 n3 => ⟨_, rfl, l3, (wa : Int), [.int tp], rfl, rfl, upd_same, by omega, by omega, ?_, fun l4 n4 => ?_⟩⟩
      · rw [Int.toNat_natCast]
        show 1 * wa ≤ sizeLine
        have : (8 : Nat) ≤ sizeLine := by decide
        omega
      rw [Int.toNat_natCast, rep_flat, show List.replicate wa (V.int tp) = (List.replicate wa tp).map V.int by rw [List.map_replicate]]
      refine ⟨l4, _, rfl, .inl ⟨SqL.of upd_same, fun p4 np4 => ?_⟩⟩
      have kk4 := kp_new (o := .tup ((List.replicate wa tp).map V.int)) (kp_new (o := .lst ((List.replicate wa tp).map V.int)) (kp_new (o := .lst [V.int tp]) (kk3.trans k4) n3) n4) np4
      have B4' := ((B4.same (same_upd (o := .lst [V.int tp]) n3)).same (same_upd (o := .lst ((List.replicate wa tp).map V.int)) n4)).same (same_upd (o := .tup ((List.replicate wa tp).map V.int)) np4)
      have f4 : H p4 = none := kp_free (kp_new (o := .lst ((List.replicate wa tp).map V.int)) (kp_new (o := .lst [V.int tp]) (kk3.trans k4) n3) n4) (((B4.same (same_upd (o := .lst [V.int tp]) n3)).same (same_upd (o := .lst ((List.replicate wa tp).map V.int)) n4)).nb np4) np4
      have e4 : upd (upd (upd H4 l3 (.lst [V.int tp])) l4 (.lst ((List.replicate wa tp).map V.int))) p4 (.tup ((List.replicate wa tp).map V.int)) p4 = some (.tup ((List.replicate wa tp).map V.int)) := upd_same
      generalize upd (upd (upd H4 l3 (.lst [V.int tp])) l4 (.lst ((List.replicate wa tp).map V.int))) p4 (.tup ((List.replicate wa tp).map V.int)) = H6 at kk4 B4' e4 ⊢
      clear B4 k4
      have B4 := B4'
      refine fun p np => ⟨_, rfl, _, rfl, 10, 9, rfl, rfl, ⟨by decide, by decide, by decide⟩, by show 3 ≤ sizeLine; decide, fun l nl => ⟨_, rfl, b, 3, rfl, (B4.same (same_upd np)).same (same_upd nl), by decide, by decide, fun r H5 r0 r3 k5 B5 => ?_⟩⟩
      obtain ⟨wd, hwd, go⟩ := fin p4 (List.replicate wa tp) _ (fun n hn => by rw [(List.mem_replicate.mp hn).2]; exact ⟨tp0, Int.le_refl _⟩) List.length_replicate kk4 B4 f4 e4 p np l nl r H5 r0 r3 k5 B5
      have el := k5 _ _ (nmb (((B4.same (same_upd np))).nb nl)) upd_same
      refine ⟨l, _, r, .int wd, rfl, rfl, SqL.of el, hwd, fun rd nrd => ?_⟩
      obtain ⟨g1, g2, g3⟩ := go rd nrd
      exact ⟨by rw [upd_ne (Ne.symm g2)]; exact g1, [(.inr "room", .ref p4), (.inr "top", .int tp), (.inr "wide", .int wd), (.inr "rows", .ref rd)], rfl, by show 4 ≤ 15; decide, g3⟩
    · have e4 : H4 p3 = some (.tup (ns.map V.int)) := k4 _ _ (nmb (B2.nb np3)) e3
      refine fun p np => ⟨_, rfl, _, rfl, 10, 9, rfl, rfl, ⟨by decide, by decide, by decide⟩, by show 3 ≤ sizeLine; decide, fun l nl => ⟨_, rfl, b, 3, rfl, (B4.same (same_upd np)).same (same_upd nl), by decide, by decide, fun r H5 r0 r3 k5 B5 => ?_⟩⟩
      obtain ⟨wd, hwd, go⟩ := fin p3 ns _ hns len (kk3.trans k4) B4 np3' e4 p np l nl r H5 r0 r3 k5 B5
      have el := k5 _ _ (nmb (((B4.same (same_upd np))).nb nl)) upd_same
      refine ⟨l, _, r, .int wd, rfl, rfl, SqL.of el, hwd, fun rd nrd => ?_⟩
      obtain ⟨g1, g2, g3⟩ := go rd nrd
      exact ⟨by rw [upd_ne (Ne.symm g2)]; exact g1, [(.inr "room", .ref p3), (.inr "top", .int tp), (.inr "wide", .int wd), (.inr "rows", .ref rd)], rfl, by show 4 ≤ 15; decide, g3⟩
end
end My

namespace My
open PySem PySem.Spec PyProof.Rows L2 GX GxR
abbrev sEdges : Stmt := topS 35
theorem scEdges : FnScope ["_law_m", "_law_edges_here", "_law_begin", "_law_end", "_law_amount_here"] ["_law_m"] (defScope sEdges) := ⟨rfl, rfl, rfl, by decide +kernel, rfl, by decide +kernel, by decide +kernel⟩
/-- an entry of a keeping -/
structure Ent where
  key : Str
  bg : Int
  nd : Int
  am : List Int
def EntAt (H : Hp) (v : V) (r : Ent) : Prop := ∃ t l : Addr, v = .ref t ∧ H t = some (.tup [.int r.bg, .int r.nd, .ref l]) ∧ H l = some (.tup (r.am.map V.int))
inductive Ents (H : Hp) : List (Str × V) → List Ent → Prop
  | nil : Ents H [] []
  | cons {k : Str} {v : V} {r : Ent} {rows : List (Str × V)} {es : List Ent} : k = r.key → EntAt H v r → Ents H rows es → Ents H ((k, v) :: rows) (r :: es)
theorem Ents.len {H : Hp} : ∀ {rows : List (Str × V)} {es : List Ent}, Ents H rows es → rows.length = es.length
  | _, _, .nil => rfl
  | _, _, .cons _ _ h => congrArg Nat.succ h.len
theorem Ents.get {H : Hp} : ∀ {rows : List (Str × V)} {es : List Ent}, Ents H rows es → ∀ (i : Nat) (k : Str) (v : V), rows[i]? = some (k, v) → ∃ r, es[i]? = some r ∧ k = r.key ∧ EntAt H v r
  | _, _, .nil, _, _, _, h => by simp at h
  | _, _, .cons (r := r) e a h, 0, k, v, g => by
    cases g
    exact ⟨r, rfl, e, a⟩
  | _, _, .cons e a h, i + 1, k, v, g => h.get i k v (by simpa using g)
def edgesOf (es : List Ent) : List Int := es.flatMap fun r => [r.bg, r.nd]
theorem edges_snoc {es : List Ent} {i : Nat} {r : Ent} (h : es[i]? = some r) : edgesOf (es.take (i + 1)) = edgesOf (es.take i) ++ [r.bg, r.nd] := by
  unfold edgesOf
  rw [List.take_succ, h, List.flatMap_append]
  rfl
theorem edges_len (es : List Ent) : (edgesOf es).length = 2 * es.length := by
  induction es with
  | nil => rfl
  | cons r es ih =>
    have h : edgesOf (r :: es) = [r.bg, r.nd] ++ edgesOf es := rfl
    rw [h, List.length_append, ih, List.length_cons]
    show 2 + 2 * es.length = 2 * (es.length + 1)
    omega
def spEdges : Sp := fun vs H Q _ => ∃ (m pr rd : Addr) (ns : List Int) (top wide : Int) (rows : List (Str × V)) (es : List Ent), vs = [.ref m] ∧ MAt H m pr rd ns top wide rows ∧ Ents H rows es ∧ es.length ≤ 1000 ∧
  ∀ (p : Addr) (ns' : List Int) (H' : Hp), ns'.Perm (edgesOf es) → ns'.Pairwise (· ≤ ·) → Same H H' → H p = none → H' p = some (.lst (ns'.map V.int)) → Q (.ref p) H'
section
variable {P : Program} {w : World} {K : PySem.W.Frag} {mg : Str → Option Value} {base : Heap}
theorem ok_edges {f : Addr} {fd : FuncData} {k : Nat} (F : Fun K "_law_edges" "_law_edges" sEdges f fd) (mS : mg "sorted" = none) : FnOk P w K mg base CX0 (k + 1) f fd ["_law_m"] spEdges := by
  refine F.ok scEdges (fun vs H Q E h => ?_) (fun cdv A outer s H vs Q E hr h => ?_)
  · obtain ⟨m, pr, rd, ns, top, wide, rows, es, rfl, _⟩ := h
    rfl
  · obtain ⟨m, pr, rd, ns, top, wide, rows, es, rfl, M, hE, hl, q⟩ := h
    have hu : (cxOf CX0 P w K mg base ["_law_m", "_law_edges_here", "_law_begin", "_law_end", "_law_amount_here"] "_law_edges" (defScope sEdges) f cdv A outer s H E).nox.A.units + 1 < cLine := by
      have h : (A.deeper (envOfC "_law_edges" (defScope sEdges) s.heap.objs.size f cdv)).units + 64 < cLine := hr.units
      show (A.deeper (envOfC "_law_edges" (defScope sEdges) s.heap.objs.size f cdv)).units + 1 < cLine
      omega
    refine ⟨_, pss_cons (ps_set (i := 1) scEdges.nd rfl (.inl rfl) (pe_lst pa_nil))
      (pss_cons (ps_lock (ps_for PassesOwn.never rfl (pi_values (pe_dget hu (pv 0) pe_str (fun _ _ => rfl))) (pg_tup rfl (pgs_cons (pg_name (i := 2) scEdges.nd rfl (.inl rfl)) (pgs_cons (pg_name (i := 3) scEdges.nd rfl (.inl rfl)) (pgs_cons (pg_name (i := 4) scEdges.nd rfl (.inl rfl)) pgs_nil))))
        (pss_one (ps_set (i := 1) scEdges.nd rfl (.inl rfl) (pe_op op_cat (pv 1) (pe_lst (pa_cons (pv 2) (pa_cons (pv 3) pa_nil))))))))
      (pss_one (ps_ret (pe_callB cr_sortedI (by rfl) mS (by decide +kernel) (pa_cons (pv 1) pa_nil))))), ?_⟩
    refine ⟨by show 0 ≤ sizeLine; decide, fun l0 n0 => ?_⟩
    have s0 := same_upd (o := .lst []) n0
    refine ⟨rd, _, s0 _ _ M.rows, trivial, fun od => ?_⟩
    have rl : rd ≠ l0 := ne_of_none M.rows n0
    have em : upd (upd H l0 (.lst [])) rd (.frz od (.dK (rows.map fun r => (.inr r.1, r.2)))) m = some (.dK [(.inr "room", .ref pr), (.inr "top", .int top), (.inr "wide", .int wide), (.inr "rows", .ref rd)]) := by
      rw [upd_ne (Ne.symm M.ne)]
      exact s0 _ _ M.dict
    refine ⟨_, rfl, m, .ref rd, rfl, DGet.k (k := .inr "rows") em, rd, od, _, rfl, upd_same, ?_⟩
    refine for_it walk_values (fun i σ H' => ∃ y2 y3 y4 l, σ = [some (.ref m), some (.ref l), y2, y3, y4] ∧ Kp [rd] H H' ∧ H' rd = some (.frz od (.dK (rows.map fun r => (.inr r.1, r.2)))) ∧ H' l = some (.lst ((edgesOf (es.take i)).map V.int)) ∧ H l = none)
      ⟨none, none, none, l0, rfl, fun x o nx e => ?_, upd_same, ?_, n0⟩ (fun i σ H' _ p => ?_) (fun i x σ H1 H2 hi p y => ?_) (fun σ H1 p => ?_)
    · rw [upd_ne (fun z => nx (List.mem_singleton.mpr z))]
      exact s0 _ _ e
    · rw [upd_ne (Ne.symm rl)]
      exact upd_same
    · obtain ⟨_, _, _, _, _, _, p2, _⟩ := p
      exact p2
    · obtain ⟨y2, y3, y4, l, rfl, p1, p2, p3, p4⟩ := p
      obtain ⟨rfl, key, hk⟩ := y
      rw [List.getElem?_map] at hk
      cases hr' : rows[i]? with
      | none => rw [hr'] at hk; cases hk
      | some kv =>
        obtain ⟨kk, v⟩ := kv
        rw [hr'] at hk
        cases hk
        obtain ⟨r, hr2, _, t, l', rfl, ht, hl'⟩ := hE.get i kk _ hr'
        have trd : t ∉ [rd] := fun z => by
          rw [List.mem_singleton.mp z, M.rows] at ht
          cases ht
        have t1 := p1 _ _ trd ht
        refine ⟨t, _, rfl, SqT.of t1, rfl, .int r.bg, _, rfl, .int r.nd, _, rfl, .ref l', [], rfl, rfl, ?_⟩
        refine ⟨_, rfl, _, rfl, _, rfl, by show 2 ≤ sizeLine; decide, fun l2 n2 => ⟨l, l2, _, _, rfl, rfl, same_upd n2 _ _ p3, upd_same, ?_, fun l3 n3 => ?_⟩⟩
        · rw [List.length_map, edges_len, List.length_take]
          show 2 * min i es.length + 2 ≤ sizeLine
          have : (2002 : Nat) ≤ sizeLine := by decide
          omega
        have k2 := kp_new (o := .lst [.int r.bg, .int r.nd]) p1 n2
        have rd2 := same_upd (o := .lst [.int r.bg, .int r.nd]) n2 _ _ p2
        have l3r : l3 ≠ rd := fun z => by
          rw [z, rd2] at n3
          cases n3
        refine ⟨_, _, _, l3, rfl, kp_new k2 n3, same_upd n3 _ _ rd2, ?_, kp_free k2 l3r n3⟩
        rw [upd_same, edges_snoc hr2, List.map_append]
        rfl
    · obtain ⟨y2, y3, y4, l, rfl, p1, p2, p3, p4⟩ := p
      refine ⟨p2, ?_⟩
      have hs : Same H (upd H1 rd (.dK (rows.map fun r => (.inr r.1, r.2)))) := fun x o e => by
        by_cases z : x = rd
        · rw [z, upd_same]
          rw [z, M.rows] at e
          exact e
        · rw [upd_ne z]
          exact p1 _ _ (nmb z) e
      have lr : l ≠ rd := fun z => by
        rw [z, M.rows] at p4
        cases p4
      have el : upd H1 rd (.dK (rows.map fun r => (.inr r.1, r.2))) l = some (.lst ((edgesOf es).map V.int)) := by
        rw [upd_ne lr, p3, List.length_map, hE.len, List.take_of_length_le (Nat.le_refl _)]
      refine ⟨_, rfl, l, _, rfl, SqL.of el, fun ns' p perm srt np => ?_⟩
      exact q p ns' _ perm srt (hs.trans (same_upd np)) (hs.free np) upd_same
end
end My

namespace My
open PySem PySem.Spec PyProof.Rows L2 GX GxR
abbrev sTime : Stmt := topS 36
abbrev sSpan : Stmt := topS 37
abbrev nTm : List Str := ["_law_box_here", "_law_m", "_law_edges_here"]
abbrev nSp : List Str := ["_law_box_here", "_law_m", "_law_one", "_law_other"]
theorem scTime : FnScope nTm ["_law_box_here", "_law_m"] (defScope sTime) := ⟨rfl, rfl, rfl, by decide +kernel, rfl, by decide +kernel, by decide +kernel⟩
theorem scSpan : FnScope nSp ["_law_box_here", "_law_m"] (defScope sSpan) := ⟨rfl, rfl, rfl, by decide +kernel, rfl, by decide +kernel, by decide +kernel⟩
section
variable {H H' : Hp} {m pr rd b : Addr} {ns : List Int} {top wide : Int} {rows : List (Str × V)} {es : List Ent}
theorem MAt.same (s : Same H H') (M : MAt H m pr rd ns top wide rows) : MAt H' m pr rd ns top wide rows :=
  ⟨s _ _ M.dict, s _ _ M.room, s _ _ M.rows, M.len1, M.len8, M.top0, M.top1, M.wid0, M.wid1, M.num, M.ne⟩
theorem Bt.off (B : Bt H b) {x : Addr} {o : HO} (e : H x = some o) (n : ∀ xs, o ≠ .lst xs) : x ∉ [b] := fun z => by
  obtain ⟨xs, h1, _⟩ := B
  rw [List.mem_singleton.mp z, h1] at e
  exact n xs (Option.some.inj e).symm
theorem MAt.kp (B : Bt H b) (s : Kp [b] H H') (M : MAt H m pr rd ns top wide rows) : MAt H' m pr rd ns top wide rows :=
  ⟨s _ _ (B.off M.dict fun _ z => by cases z) M.dict, s _ _ (B.off M.room fun _ z => by cases z) M.room, s _ _ (B.off M.rows fun _ z => by cases z) M.rows, M.len1, M.len8, M.top0, M.top1, M.wid0, M.wid1, M.num, M.ne⟩
theorem EntAt.same {v : V} {r : Ent} (s : Same H H') (h : EntAt H v r) : EntAt H' v r := by
  obtain ⟨t, l, e, h1, h2⟩ := h
  exact ⟨t, l, e, s _ _ h1, s _ _ h2⟩
theorem EntAt.kp {v : V} {r : Ent} (B : Bt H b) (s : Kp [b] H H') (h : EntAt H v r) : EntAt H' v r := by
  obtain ⟨t, l, e, h1, h2⟩ := h
  exact ⟨t, l, e, s _ _ (B.off h1 fun _ z => by cases z) h1, s _ _ (B.off h2 fun _ z => by cases z) h2⟩
theorem Ents.imp (k : ∀ v r, EntAt H v r → EntAt H' v r) : ∀ {rows : List (Str × V)} {es : List Ent}, Ents H rows es → Ents H' rows es
  | _, _, .nil => .nil
  | _, _, .cons e a h => .cons e (k _ _ a) (h.imp k)
theorem ints_dp {K : PySem.W.Frag} : ∀ ns : List Int, DpAll K H (ns.map V.int) (ns.map PyData.int)
  | [] => .nil
  | n :: ns => .cons (.int n) (ints_dp ns)
end
theorem ints_lay : ∀ ns : List Int, PyData.canLayAll0 (ns.map PyData.int) = true
  | [] => rfl
  | n :: ns => by
    show (PyData.canLay0 (.int n) && PyData.canLayAll0 (ns.map PyData.int)) = true
    rw [ints_lay ns]
    rfl
theorem ints_deep : ∀ ns : List Int, PyData.depthAll (ns.map PyData.int) = 0
  | [] => by simp [PyData.depthAll]
  | n :: ns => by
    show max (PyData.depth (.int n)) (PyData.depthAll (ns.map PyData.int)) = 0
    rw [ints_deep ns]
    simp [PyData.depth]
theorem ints_sh (ns : List Int) : SeqAt.shaped (.list (ns.map PyData.int)) = true := by
  have h1 : PyData.canLay0 (.list (ns.map PyData.int)) = true := ints_lay ns
  have h2 : PyData.depth (.list (ns.map PyData.int)) ≤ 64 := by
    show PyData.depthAll (ns.map PyData.int) + 1 ≤ 64
    rw [ints_deep]
    decide
  unfold SeqAt.shaped
  rw [h1]
  simp [h2]
theorem ints_nil : ∀ ns : List Int, PyData.eqv (.list (ns.map PyData.int)) (.list []) = ns.isEmpty
  | [] => rfl
  | _ :: _ => rfl
def spTime : Sp := fun vs H Q _ => ∃ (b m pr rd : Addr) (ns : List Int) (top wide : Int) (rows : List (Str × V)) (es : List Ent), vs = [.ref b, .ref m] ∧ Bt H b ∧ MAt H m pr rd ns top wide rows ∧ Ents H rows es ∧ es.length ≤ 1000 ∧
  ∀ t H', 0 ≤ t → t ≤ wide → Kp [b] H H' → Bt H' b → Q (.int t) H'
/-- a stretch: two times, the one ahead of the other -/
def spSpan : Sp := fun vs H Q _ => ∃ (b m pr rd : Addr) (ns : List Int) (top wide : Int) (rows : List (Str × V)) (es : List Ent), vs = [.ref b, .ref m] ∧ Bt H b ∧ MAt H m pr rd ns top wide rows ∧ Ents H rows es ∧ es.length ≤ 1000 ∧
  ∀ p t u H', 0 ≤ t → t < u → u ≤ 2000000000 → Kp [b] H H' → Bt H' b → H p = none → H' p = some (.tup [.int t, .int u]) → Q (.ref p) H'
section
variable {P : Program} {w : World} {K : PySem.W.Frag} {mg : Str → Option Value} {base : Heap}
theorem ok_time {f fT fE fN : Addr} {fd fdT fdE fdN : FuncData} {k : Nat} (F : Fun K "_law_time" "_law_time" sTime f fd) (T : Txt mg)
    (GT : FnOk P w K mg base CX0 k fT fdT ["_law_box_here", "_law_many"] spTake2) (mT : mg "_law_take" = some (.ref fT)) (kT : PySem.W.keepIn K (.ref fT) = true) (bT : Binds K fdT ["_law_box_here", "_law_many"] [])
    (GE : FnOk P w K mg base CX0 k fE fdE ["_law_m"] spEdges) (mE : mg "_law_edges" = some (.ref fE)) (kE : PySem.W.keepIn K (.ref fE) = true) (bE : Binds K fdE ["_law_m"] [])
    (GN : FnOk P w K mg base CX0 k fN fdN ["_law_box_here", "_law_top"] spNumber) (mN : mg "_law_number" = some (.ref fN)) (kN : PySem.W.keepIn K (.ref fN) = true) (bN : Binds K fdN ["_law_box_here", "_law_top"] [])
    : FnOk P w K mg base CX0 (k + 1) f fd ["_law_box_here", "_law_m"] spTime := by
  refine F.ok scTime (fun vs H Q E h => ?_) (fun cdv A outer s H vs Q E hr h => ?_)
  · obtain ⟨b, m, pr, rd, ns, top, wide, rows, es, rfl, _⟩ := h
    rfl
  · obtain ⟨b, m, pr, rd, ns, top, wide, rows, es, rfl, hB, M, hE, hl, q⟩ := h
    have hu : (cxOf CX0 P w K mg base nTm "_law_time" (defScope sTime) f cdv A outer s H E).nox.A.units + 1 < cLine := by
      have h : (A.deeper (envOfC "_law_time" (defScope sTime) s.heap.objs.size f cdv)).units + 64 < cLine := hr.units
      show (A.deeper (envOfC "_law_time" (defScope sTime) s.heap.objs.size f cdv)).units + 1 < cLine
      omega
    refine ⟨_, pss_cons (ps_set (i := 2) scTime.nd rfl (.inl rfl) (pe_call GE hr (by rfl) mE kE bE .nil pass0 (pa_cons (pv 1) pa_nil)))
      (pss_cons (ps_if (PW.pt (pw_or (pt_cmpR (op_eqD hr.units) (pv 2) (pe_lst pa_nil) (nomark _)) (pw_or1 (pt_cmpR op_eq (pe_call GT hr (by rfl) mT kT bT .nil pass0 (pa_cons (pv 0) (pa_cons pe_int pa_nil))) pe_int (nomark _)))))
        (pss_one (ps_ret (pe_call GN hr (by rfl) mN kN bN .nil pass0 (pa_cons (pv 0) (pa_cons (pe_dget hu (pv 1) pe_str (fun _ _ => rfl)) pa_nil))))) pss_nil)
      (pss_one (ps_ret (pe_callB (call_min2 rfl) (by rfl) T.min (by decide +kernel) (pa_cons (pe_dget hu (pv 1) pe_str (fun _ _ => rfl)) (pa_cons (pe_callB (call_max2 rfl) (by rfl) T.max (by decide +kernel) (pa_cons pe_int (pa_cons
        (pe_op op_sub (pe_op op_add (pe_ix ix_list (pv 2) (pe_call GT hr (by rfl) mT kT bT .nil pass0 (pa_cons (pv 0) (pa_cons (pe_callB call_len_seq (by rfl) T.len PySem.boot_len (pa_cons (pv 2) pa_nil)) pa_nil))) (fun _ _ => rfl)) (pe_call GT hr (by rfl) mT kT bT .nil pass0 (pa_cons (pv 0) (pa_cons pe_int pa_nil)))) pe_int) pa_nil))) pa_nil)))))), ?_⟩
    refine ⟨_, rfl, m, pr, rd, ns, top, wide, rows, es, rfl, M, hE, hl, fun pe es' H1 perm srt s1 npe ee => ?_⟩
    have B1 := hB.same s1
    have M1 := M.same s1
    have ne1 : pe ≠ b := hB.nb npe
    have numOf : ∀ H2, Kp [b] H H2 → Bt H2 b → MAt H2 m pr rd ns top wide rows → (tCall spNumber [] E0 (tCons (tVar 0) (tCons (tDGet (tVar 1) (tC (.str (Str.ofString "wide")))) tNil)) : TE) [some (.ref b), some (.ref m), some (.ref pe)] H2 Q := fun H2 k2 B2 M2 =>
      ⟨_, rfl, _, rfl, m, .int wide, rfl, DGet.k (k := .inr "wide") M2.dict, b, wide, rfl, B2, by have := M.wid0; omega, by have := M.wid1; omega, fun n H3 n0 n1 k3 B3 => q n H3 n0 n1 (k2.trans k3) B3⟩
    refine ⟨_, rfl, by show 0 ≤ sizeLine; decide, fun l nl => ?_⟩
    have s2 := s1.trans (same_upd (o := .lst []) nl)
    refine ⟨_, _, .lst (SqL.of (same_upd nl _ _ ee)) (ints_dp es'), .lst (SqL.of upd_same) .nil, ints_sh es', ints_sh [], ?_⟩
    rw [ints_nil]
    have k0 : Kp [b] H (upd H1 l (.lst [])) := Same.kp _ s2
    have B2 : Bt (upd H1 l (.lst [])) b := hB.same s2
    have M2 := M.same s2
    have e2 := same_upd (o := .lst []) nl _ _ ee
    generalize upd H1 l (.lst []) = H2 at k0 B2 M2 e2 ⊢
    cases es' with
    | nil => exact ⟨true, rfl, iteT (numOf H2 k0 B2 M2)⟩
    | cons n1 ns1 =>
      refine ⟨false, rfl, iteF ⟨_, rfl, b, 2, rfl, B2, by decide, by decide, fun r H3 r0 r1 k3 B3 => ⟨rfl, _, rfl, ite2 (fun e => ?_) (fun e => ?_)⟩⟩⟩
      · exact numOf H3 (k0.trans k3) B3 (M2.kp B2 k3)
      · have M3 := M2.kp B2 k3
        have e3 := k3 _ _ (nmb ne1) e2
        have len1000 : (n1 :: ns1).length ≤ 2000 := by
          have h1 := perm.length_eq
          rw [edges_len] at h1
          omega
        refine ⟨_, rfl, m, .int wide, rfl, DGet.k (k := .inr "wide") M3.dict, _, rfl, _, rfl, _, rfl, pe, _, rfl, .inl (SqL.of e3), b, _, rfl, B3, ?_, ?_, fun r2 H4 a4 b4 k4 B4 => ?_⟩
        · rw [List.length_map, List.length_cons]
          omega
        · rw [List.length_map]
          omega
        rw [List.length_map] at b4
        obtain ⟨j, rfl⟩ : ∃ j : Nat, r2 = (j : Int) := ⟨r2.toNat, by omega⟩
        have hj : j < (n1 :: ns1).length := by omega
        have e4 := k4 _ _ (nmb ne1) e3
        refine ⟨pe, _, (j : Int), .int (n1 :: ns1)[j], rfl, rfl, SqL.of e4, atI_nat (by rw [List.getElem?_map, List.getElem?_eq_getElem hj]; rfl), ?_⟩
        refine ⟨_, rfl, b, 3, rfl, B4, by decide, by decide, fun r3 H5 a5 b5 k5 B5 => ⟨_, r3, rfl, rfl, _, 1, rfl, rfl, 0, _, rfl, wide, _, rfl, q _ H5 ?_ ?_ (((k0.trans k3).trans k4).trans k5) B5⟩⟩
        · have := M.wid0
          split
          · split <;> omega
          · omega
        · split <;> omega
theorem ok_span {f fT fM : Addr} {fd fdT fdM : FuncData} {k : Nat} (F : Fun K "_law_span" "_law_span" sSpan f fd) (T : Txt mg)
    (GT : FnOk P w K mg base CX0 k fT fdT ["_law_box_here", "_law_many"] spTake2) (mT : mg "_law_take" = some (.ref fT)) (kT : PySem.W.keepIn K (.ref fT) = true) (bT : Binds K fdT ["_law_box_here", "_law_many"] [])
    (GM : FnOk P w K mg base CX0 k fM fdM ["_law_box_here", "_law_m"] spTime) (mM : mg "_law_time" = some (.ref fM)) (kM : PySem.W.keepIn K (.ref fM) = true) (bM : Binds K fdM ["_law_box_here", "_law_m"] [])
    : FnOk P w K mg base CX0 (k + 1) f fd ["_law_box_here", "_law_m"] spSpan := by
  refine F.ok scSpan (fun vs H Q E h => ?_) (fun cdv A outer s H vs Q E hr h => ?_)
  · obtain ⟨b, m, pr, rd, ns, top, wide, rows, es, rfl, _⟩ := h
    rfl
  · obtain ⟨b, m, pr, rd, ns, top, wide, rows, es, rfl, hB, M, hE, hl, q⟩ := h
    refine ⟨_, pss_cons (ps_set (i := 2) scSpan.nd rfl (.inl rfl) (pe_call GM hr (by rfl) mM kM bM .nil pass0 (pa_cons (pv 0) (pa_cons (pv 1) pa_nil))))
      (pss_cons (ps_set (i := 3) scSpan.nd rfl (.inl rfl) (pe_call GM hr (by rfl) mM kM bM .nil pass0 (pa_cons (pv 0) (pa_cons (pv 1) pa_nil))))
      (pss_cons (ps_if (pt_cmpR op_eq (pv 2) (pv 3) (nomark _)) (pss_one (ps_ret (pe_tup (pa_cons (pe_callB (call_max2 rfl) (by rfl) T.max (by decide +kernel) (pa_cons pe_int (pa_cons (pe_op op_sub (pv 2) pe_int) pa_nil))) (pa_cons (pe_op op_add (pe_op op_add (pe_callB (call_max2 rfl) (by rfl) T.max (by decide +kernel) (pa_cons pe_int (pa_cons (pe_op op_sub (pv 2) pe_int) pa_nil))) pe_int) (pe_call GT hr (by rfl) mT kT bT .nil pass0 (pa_cons (pv 0) (pa_cons pe_int pa_nil)))) pa_nil))))) pss_nil)
      (pss_one (ps_ret (pe_tup (pa_cons (pe_callB (call_min2 rfl) (by rfl) T.min (by decide +kernel) (pa_cons (pv 2) (pa_cons (pv 3) pa_nil))) (pa_cons (pe_callB (call_max2 rfl) (by rfl) T.max (by decide +kernel) (pa_cons (pv 2) (pa_cons (pv 3) pa_nil))) pa_nil))))))), ?_⟩
    have w9 := M.wid1
    refine ⟨_, rfl, _, rfl, b, m, pr, rd, ns, top, wide, rows, es, rfl, hB, M, hE, hl, fun t H1 t0 t1 k1 B1 => ?_⟩
    have M1 := M.kp hB k1
    have E1 := hE.imp fun v r h => h.kp hB k1
    refine ⟨_, rfl, _, rfl, b, m, pr, rd, ns, top, wide, rows, es, rfl, B1, M1, E1, hl, fun u H2 u0 u1 k2 B2 => ?_⟩
    have kk := k1.trans k2
    refine ⟨_, rfl, _, rfl, rfl, _, rfl, ite2 (fun e => ?_) (fun e => ?_)⟩
    · refine ⟨_, rfl, t, 1, rfl, rfl, 0, _, rfl, _, rfl, t, 1, rfl, rfl, 0, _, rfl, _, 1, rfl, rfl, _, rfl, b, 3, rfl, B2, by decide, by decide, fun r H3 r0 r1 k3 B3 => ⟨_, r, rfl, rfl, by show 2 ≤ sizeLine; decide, fun p np => ?_⟩⟩
      refine q p _ _ _ ?_ ?_ ?_ (kp_new (kk.trans k3) np) (B3.same (same_upd np)) (kp_free (kk.trans k3) (B3.nb np) np) upd_same
      · split <;> omega
      · split <;> omega
      · split <;> omega
    · have ne : t ≠ u := fun z => e (by rw [z]; exact decide_eq_true rfl)
      refine ⟨_, rfl, _, rfl, t, u, rfl, _, rfl, _, rfl, t, u, rfl, by show 2 ≤ sizeLine; decide, fun p np => ?_⟩
      refine q p _ _ _ ?_ ?_ ?_ (kp_new kk np) (B2.same (same_upd np)) (kp_free kk (B2.nb np) np) upd_same
      · split <;> omega
      · split <;> split <;> omega
      · split <;> omega
end
end My

namespace My
open PySem PySem.Spec PyProof.Rows L2 GX GxR
abbrev sWanted : Stmt := topS 38
abbrev nW : List Str := ["_law_box_here", "_law_m"]
theorem scWanted : FnScope nW ["_law_box_here", "_law_m"] (defScope sWanted) := ⟨rfl, rfl, rfl, by decide +kernel, rfl, by decide +kernel, by decide +kernel⟩
def spWanted : Sp := fun vs H Q _ => ∃ (b m pr rd : Addr) (ns : List Int) (top wide : Int) (rows : List (Str × V)), vs = [.ref b, .ref m] ∧ Bt H b ∧ MAt H m pr rd ns top wide rows ∧
  ∀ (p : Addr) (as : List Int) (H' : Hp), (∀ a ∈ as, 0 ≤ a ∧ a ≤ top) → as.length = ns.length → Kp [b] H H' → Bt H' b → H p = none → H' p = some (.tup (as.map V.int)) → Q (.ref p) H'
section
variable {P : Program} {w : World} {K : PySem.W.Frag} {mg : Str → Option Value} {base : Heap}
theorem ok_wanted {f fT fA : Addr} {fd fdT fdA : FuncData} {k : Nat} (F : Fun K "_law_wanted" "_law_wanted" sWanted f fd) (T : Txt mg)
    (GT : FnOk P w K mg base CX0 k fT fdT ["_law_box_here", "_law_many"] spTake2) (mT : mg "_law_take" = some (.ref fT)) (kT : PySem.W.keepIn K (.ref fT) = true) (bT : Binds K fdT ["_law_box_here", "_law_many"] [])
    (GA : FnOk P w K mg base CX0 k fA fdA ["_law_box_here", "_law_wares", "_law_top"] spAmount2) (mA : mg "_law_amount" = some (.ref fA)) (kA : PySem.W.keepIn K (.ref fA) = true) (bA : Binds K fdA ["_law_box_here", "_law_wares", "_law_top"] [])
    : FnOk P w K mg base CX0 (k + 1) f fd ["_law_box_here", "_law_m"] spWanted := by
  refine F.ok scWanted (fun vs H Q E h => ?_) (fun cdv A outer s H vs Q E hr h => ?_)
  · obtain ⟨b, m, pr, rd, ns, top, wide, rows, rfl, _⟩ := h
    rfl
  · obtain ⟨b, m, pr, rd, ns, top, wide, rows, rfl, hB, M, q⟩ := h
    have hu : (cxOf CX0 P w K mg base nW "_law_wanted" (defScope sWanted) f cdv A outer s H E).nox.A.units + 1 < cLine := by
      have h : (A.deeper (envOfC "_law_wanted" (defScope sWanted) s.heap.objs.size f cdv)).units + 64 < cLine := hr.units
      show (A.deeper (envOfC "_law_wanted" (defScope sWanted) s.heap.objs.size f cdv)).units + 1 < cLine
      omega
    refine ⟨_, pss_one (ps_ret (pe_call GA hr (by rfl) mA kA bA .nil pass0 (pa_cons (pv 0) (pa_cons (pe_callB call_len_seq (by rfl) T.len PySem.boot_len (pa_cons (pe_dget hu (pv 1) pe_str (fun _ _ => rfl)) pa_nil))
      (pa_cons (pe_op op_fdiv (pe_dget hu (pv 1) pe_str (fun _ _ => rfl)) (pe_ix ix_list (pe_lst (pa_cons pe_int (pa_cons pe_int (pa_cons pe_int (pa_cons pe_int pa_nil))))) (pe_call GT hr (by rfl) mT kT bT .nil pass0 (pa_cons (pv 0) (pa_cons pe_int pa_nil))) (fun _ _ => rfl))) pa_nil))))), ?_⟩
    refine ⟨_, rfl, _, rfl, m, .ref pr, rfl, DGet.k (k := .inr "room") M.dict, pr, _, rfl, .inr (SqT.of M.room), _, rfl, m, .int top, rfl, DGet.k (k := .inr "top") M.dict, by show 4 ≤ sizeLine; decide, fun l nl => ?_⟩
    refine ⟨_, rfl, b, 4, rfl, hB.same (same_upd nl), by decide, by decide, fun r H1 r0 r1 k1 B1 => ?_⟩
    have e1 := k1 _ _ (nmb (hB.nb nl)) upd_same
    have hv : ∃ d : Int, 0 < d ∧ d < 1073741824 ∧ atI [V.int 1, .int 3, .int 12, .int 40] r = some (.int d) := by
      obtain ⟨j, rfl⟩ : ∃ j : Nat, r = (j : Int) := ⟨r.toNat, by omega⟩
      rcases j with _ | _ | _ | _ | j
      · exact ⟨1, by decide, by decide, rfl⟩
      · exact ⟨3, by decide, by decide, rfl⟩
      · exact ⟨12, by decide, by decide, rfl⟩
      · exact ⟨40, by decide, by decide, rfl⟩
      · exact absurd r1 (by omega)
    obtain ⟨d, d0, d1, hd⟩ := hv
    have t0 := M.top0
    have t1 := M.top1
    have q0 : 0 ≤ top / d := Int.ediv_nonneg t0 (by omega)
    have q1 : top / d ≤ top := Int.ediv_le_self _ t0
    have kk := (kp_new (o := .lst [V.int 1, .int 3, .int 12, .int 40]) (Kp.refl [b] H) nl).trans k1
    refine ⟨l, _, r, .int d, rfl, rfl, SqL.of e1, hd, top, d, rfl, rfl, ⟨d0, d1⟩, b, ns.length, top / d, ?_, B1, by have := M.len8; omega, q0, by omega, fun p as H2 has len k2 B2 np ep => ?_⟩
    · rw [List.length_map]
      rfl
    · exact q p as H2 (fun a ha => ⟨(has a ha).1, by have := (has a ha).2; omega⟩) len (kk.trans k2) B2 (kp_free kk (B1.nb np) np) ep
end
end My

namespace My
open PySem PySem.Spec PyProof.Rows L2 GX GxR
theorem sIx_nat (n d j : Nat) : HT.sIx n d (some (j : Int)) = min j n := by
  show (if (j : Int) < 0 then ((j : Int) + (n : Int)).toNat else min (j : Int).toNat n) = min j n
  rw [if_neg (by omega), Int.toNat_natCast]
theorem cut_drop (xs : List V) (j : Nat) : cutV xs (some (j : Int)) none = xs.drop j := by
  unfold cutV
  rw [HT.sIx_none, sIx_nat]
  by_cases h : j ≤ xs.length
  · rw [Nat.min_eq_left h, List.take_of_length_le (by rw [List.length_drop]; exact Nat.le_refl _)]
  · rw [Nat.min_eq_right (by omega), Nat.sub_self, List.take_zero, List.drop_eq_nil_of_le (by omega)]
theorem cut_take (xs : List V) (j : Nat) : cutV xs none (some (j : Int)) = xs.take j := by
  unfold cutV
  rw [HT.sIx_none, sIx_nat, List.drop_zero, Nat.sub_zero]
  by_cases h : j ≤ xs.length
  · rw [Nat.min_eq_left h]
  · rw [Nat.min_eq_right (by omega), List.take_of_length_le (Nat.le_refl _), List.take_of_length_le (by omega)]
/-! guilds -/
def some12 : List Str := ["n", "no", "nor", "north", "s", "so", "e", "west", "westward", "ab", "a", "zz"]
def guildsOf (t n : Nat) : List Str := (some12.drop t ++ some12.take t).take n
structure GsOk (gs : List Str) : Prop where
  nd : gs.Nodup
  l1 : 1 ≤ gs.length
  l12 : gs.length ≤ 12
  str : ∀ z ∈ gs, PySem.PyData.strOk z = true
  len : ∀ z ∈ gs, z.length ≤ 8
theorem guilds_ok1 : ∀ t, t < 12 → ∀ n ∈ [1, 2, 4, 12], (guildsOf t n).Nodup ∧ 1 ≤ (guildsOf t n).length ∧ (guildsOf t n).length ≤ 12 ∧ (∀ z ∈ guildsOf t n, PySem.PyData.strOk z = true ∧ z.length ≤ 8) := by decide +kernel
theorem guilds_ok {t n : Nat} (h : t < 12) (hn : n ∈ [1, 2, 4, 12]) : GsOk (guildsOf t n) := by
  obtain ⟨h1, h2, h3, h4⟩ := guilds_ok1 t h n hn
  exact ⟨h1, h2, h3, fun z hz => (h4 z hz).1, fun z hz => (h4 z hz).2⟩
/-! names of rows -/
def ten : Str := "abcdefghij"
def rowName (i : Nat) : Str := Txt.mul ⟨#[ten.cps.toList.getD (i / 6) 0]⟩ (1 + ((i % 6 : Nat) : Int))
def allNames : List Str := (List.range 60).map rowName
theorem names_ok1 : allNames.Nodup ∧ (∀ z ∈ allNames, PySem.PyData.strOk z = true ∧ z.length ≤ 8 ∧ z ∉ (["z", "aaaaaaa", "zed"] : List Str)) := by decide +kernel
theorem rowName_inj {i j : Nat} (hi : i < 60) (hj : j < 60) (h : rowName i = rowName j) : i = j := by
  have nd := names_ok1.1
  have gi : ∀ {i : Nat}, i < 60 → allNames[i]? = some (rowName i) := fun {i} hi => by
    unfold allNames
    rw [List.getElem?_map, List.getElem?_range hi]
    rfl
  have g1 := gi hi
  have g2 := gi hj
  rw [← h] at g2
  obtain ⟨l1, e1⟩ := List.getElem?_eq_some_iff.mp g1
  obtain ⟨l2, e2⟩ := List.getElem?_eq_some_iff.mp g2
  exact (List.getElem_inj nd).mp (e1.trans e2.symm)
theorem rowName_mem {i : Nat} (hi : i < 60) : rowName i ∈ allNames := List.mem_map.mpr ⟨i, List.mem_range.mpr hi, rfl⟩
theorem mul_okB (i : Nat) {n : Int} (h0 : 1 ≤ n) (h1 : n ≤ 6) : MulOk ⟨#[i]⟩ n :=
  mulOk_of 16 1048576 (by show 1 ≤ 16; decide) (by omega) (by omega) (by decide) (by decide)
/-! dues -/
def DueAt (H : Hp) (p : Key × V) (kv : Str × List Int) : Prop := p.1 = Sum.inr kv.1 ∧ ∃ a, p.2 = .ref a ∧ H a = some (.tup (kv.2.map V.int))
def DuesAt (H : Hp) (d : Addr) (kvs : List (Str × List Int)) : Prop := ∃ ps : List (Key × V), H d = some (.dK ps) ∧ Paired (DueAt H) ps kvs
theorem DueAt.kt {H H' : Hp} {p : Key × V} {kv : Str × List Int} (k : KTu H H') (h : DueAt H p kv) : DueAt H' p kv := by
  obtain ⟨e, a, h1, h2⟩ := h
  exact ⟨e, a, h1, k _ _ h2⟩
theorem DuesAt.kt {H H' : Hp} {d : Addr} {kvs : List (Str × List Int)} (k : KTu H H') (hd : ∀ o, H d = some o → H' d = some o) (h : DuesAt H d kvs) : DuesAt H' d kvs := by
  obtain ⟨ps, h1, h2⟩ := h
  exact ⟨ps, hd _ h1, h2.mono fun _ _ x => x.kt k⟩
def duePut (kvs : List (Str × List Int)) (g : Str) (ns : List Int) : List (Str × List Int) := kvs.map fun kv => if kv.1 = g then (kv.1, ns) else kv
theorem duePut_keys (kvs : List (Str × List Int)) (g : Str) (ns : List Int) : (duePut kvs g ns).map (·.1) = kvs.map (·.1) := by
  unfold duePut
  rw [List.map_map]
  refine List.map_congr_left fun kv _ => ?_
  show (if kv.1 = g then (kv.1, ns) else kv).1 = kv.1
  split <;> rfl
theorem due_put {H : Hp} {g : Str} {ns : List Int} {a : Addr} (ha : H a = some (.tup (ns.map V.int))) : ∀ {ps : List (Key × V)} {kvs : List (Str × List Int)}, Paired (DueAt H) ps kvs → Paired (DueAt H) (ps.map fun kv => if kv.1 = Sum.inr g then (kv.1, .ref a) else kv) (duePut kvs g ns)
  | _, _, .nil => .nil
  | p :: ps, kv :: kvs, .cons h t => by
    obtain ⟨e, x⟩ := h
    refine .cons ?_ (due_put ha t)
    show DueAt H (if p.1 = Sum.inr g then (p.1, V.ref a) else p) (if kv.1 = g then (kv.1, ns) else kv)
    by_cases z : kv.1 = g
    · have z' : p.1 = Sum.inr g := by rw [e, z]
      rw [if_pos z', if_pos z]
      exact ⟨e, a, rfl, ha⟩
    · have z' : ¬ p.1 = Sum.inr g := fun q => z (by rw [e] at q; exact Sum.inr.inj q)
      rw [if_neg z', if_neg z]
      exact ⟨e, x⟩
theorem due_any {H : Hp} {g : Str} : ∀ {ps : List (Key × V)} {kvs : List (Str × List Int)}, Paired (DueAt H) ps kvs → g ∈ kvs.map (·.1) → (ps.any fun kv => decide (kv.1 = Sum.inr g)) = true
  | _, _, .nil, h => nomatch h
  | p :: ps, kv :: kvs, .cons h t, hm => by
    rw [List.any_cons]
    rcases List.mem_cons.mp hm with z | z
    · have z' : p.1 = Sum.inr g := by rw [h.1]; exact congrArg Sum.inr z.symm
      rw [decide_eq_true z']
      rfl
    · rw [due_any t z, Bool.or_true]
theorem merge_nd : ∀ (ps acc : List (Key × V)), ((acc ++ ps).map (·.1)).Nodup → mergeK acc ps = acc ++ ps
  | [], acc, _ => by rw [List.append_nil]; rfl
  | p :: ps, acc, h => by
    show mergeK (putK acc p.1 p.2) ps = _
    have hn : ∀ kv ∈ acc, kv.1 ≠ p.1 := fun kv hk z => by
      rw [List.map_append, List.nodup_append] at h
      exact h.2.2 kv.1 (List.mem_map.mpr ⟨kv, hk, rfl⟩) p.1 (List.mem_map.mpr ⟨p, List.mem_cons_self, rfl⟩) z
    have hv : (acc.any fun kv => decide (kv.1 = p.1)) = false := by
      rw [List.any_eq_false]
      intro kv hk
      simpa using hn kv hk
    have e : putK acc p.1 p.2 = acc ++ [p] := by
      unfold putK
      rw [hv]
      rfl
    rw [e, merge_nd ps (acc ++ [p]) (by rw [List.append_assoc]; exact h), List.append_assoc]
    rfl
theorem due_keys {H : Hp} : ∀ {ps : List (Key × V)} {kvs : List (Str × List Int)}, Paired (DueAt H) ps kvs → ps.map (·.1) = (kvs.map (·.1)).map Sum.inr
  | _, _, .nil => rfl
  | p :: ps, kv :: kvs, .cons h t => by
    rw [List.map_cons, List.map_cons, List.map_cons, due_keys t, h.1]
theorem keys_nd {gs : List Str} (h : gs.Nodup) : (gs.map (Sum.inr : Str → Key)).Nodup := by
  unfold List.Nodup at *
  rw [List.pairwise_map]
  exact h.imp fun hne z => hne (Sum.inr.inj z)
/-! rows -/
structure RowOk (gs : List Str) (wr : Nat) (i : Nat) (R : Gang × Int) : Prop where
  ok : GangOk gs wr R.1
  name : R.1.name = rowName i
  n0 : 0 ≤ R.2
  nm : R.2 % 100 = (i : Int)
  n1 : R.2 < 6100
def RowsOk (gs : List Str) (wr : Nat) (Rs : List (Gang × Int)) : Prop := Rs.length ≤ 60 ∧ ∀ i R, Rs[i]? = some R → RowOk gs wr i R
theorem RowsOk.snoc {gs : List Str} {wr : Nat} {Rs : List (Gang × Int)} {R : Gang × Int} (h : RowsOk gs wr Rs) (hl : Rs.length < 60) (r : RowOk gs wr Rs.length R) : RowsOk gs wr (Rs ++ [R]) := by
  refine ⟨by rw [List.length_append]; show Rs.length + 1 ≤ 60; omega, fun i R' e => ?_⟩
  by_cases z : i < Rs.length
  · rw [List.getElem?_append_left z] at e
    exact h.2 i R' e
  · rw [List.getElem?_append_right (by omega)] at e
    have hz : i - Rs.length = 0 := by
      obtain ⟨q, _⟩ := List.getElem?_eq_some_iff.mp e
      have : i - Rs.length < 1 := q
      omega
    rw [hz] at e
    cases e
    rw [show i = Rs.length by omega]
    exact r
/-- what stands while the state is drawn: H as it was at first, H' as it is -/
structure Drawn (H : Hp) (hb gl : Addr) (gs : List Str) (c : Int) (H' : Hp) : Prop where
  same : Same H H'
  box : BoxAt H' hb c
  gl : H' gl = some (.lst (gs.map V.str))
theorem same_kp {H H1 H2 : Hp} {b : Addr} (s : Same H H1) (n : H b = none) (k : Kp [b] H1 H2) : Same H H2 := fun x o e => k x o (fun z => by
  rw [List.mem_singleton.mp z, n] at e
  cases e) (s x o e)
theorem same_put {H H1 : Hp} {b : Addr} {o : HO} (s : Same H H1) (n : H b = none) : Same H (upd H1 b o) := fun x u e => by
  rw [upd_ne (ne_of_none e n)]
  exact s x u e
theorem Drawn.new {H H' H2 : Hp} {hb gl : Addr} {gs : List Str} {c : Int} (D : Drawn H hb gl gs c H') (s : Same H' H2) : Drawn H hb gl gs c H2 :=
  ⟨D.same.trans s, D.box.same s, s _ _ D.gl⟩
theorem Drawn.asked {H H' H2 : Hp} {hb gl : Addr} {gs : List Str} {c c' : Int} (D : Drawn H hb gl gs c H') (n : H hb = none) (k : Kp [hb] H' H2) (B : BoxAt H2 hb c') : Drawn H hb gl gs c' H2 :=
  ⟨same_kp D.same n k, B, k _ _ (fun z => box_strs D.box D.gl (List.mem_singleton.mp z)) D.gl⟩
theorem Drawn.other {H H' H2 : Hp} {hb gl b : Addr} {gs : List Str} {c c' : Int} (D : Drawn H hb gl gs c H') (n : H b = none) (nb : b ≠ hb) (B : BoxAt H' b c') (k : Kp [b] H' H2) : Drawn H hb gl gs c H2 :=
  ⟨same_kp D.same n k, D.box.kp k fun z => nb (List.mem_singleton.mp z).symm, k _ _ (fun z => box_strs B D.gl (List.mem_singleton.mp z)) D.gl⟩
theorem Drawn.put {H H' : Hp} {hb gl p : Addr} {gs : List Str} {c : Int} {o : HO} (D : Drawn H hb gl gs c H') (n : H p = none) (n1 : p ≠ hb) (n2 : p ≠ gl) : Drawn H hb gl gs c (upd H' p o) := by
  refine ⟨same_put D.same n, ?_, by rw [upd_ne n2.symm]; exact D.gl⟩
  obtain ⟨xs, h1, h2⟩ := D.box
  exact ⟨xs, by rw [upd_ne n1.symm]; exact h1, h2⟩
theorem Drawn.le {H H' : Hp} {hb gl : Addr} {gs : List Str} {c c' : Int} (D : Drawn H hb gl gs c H') (h : c ≤ c') : Drawn H hb gl gs c' H' := ⟨D.same, D.box.le h, D.gl⟩
/-- the rows so far, at r -/
def RowsAt (H : Hp) (r : Addr) (Rs : List (Gang × Int)) : Prop := ∃ as : List Addr, H r = some (.lst (as.map V.ref)) ∧ Paired (RowAt H) as Rs
theorem RowsAt.kt {H H' : Hp} {r : Addr} {Rs : List (Gang × Int)} (k : KTu H H') (hr : ∀ o, H r = some o → H' r = some o) (h : RowsAt H r Rs) : RowsAt H' r Rs := by
  obtain ⟨as, h1, h2⟩ := h
  exact ⟨as, hr _ h1, h2.mono fun _ _ x => x.kt k⟩
/-- what the state is: its dues, its rows, its gang -/
structure StateAt (H' : Hp) (d r g : Addr) (gs : List Str) (wr : Nat) (kvs : List (Str × List Int)) (Rs : List (Gang × Int)) (G : Gang) : Prop where
  gsok : GsOk gs
  w1 : 1 ≤ wr
  w8 : wr ≤ 8
  dues : DuesAt H' d kvs
  keys : kvs.map (·.1) = gs
  amts : ∀ kv ∈ kvs, Amt kv.2 ∧ kv.2.length = wr
  rows : RowsAt H' r Rs
  rok : RowsOk gs wr Rs
  gang : GangAt H' g G
  gok : GangOk gs wr G
  gname : G.name ∈ (["z", "aaaaaaa", "zed"] : List Str)
def spState (K : PySem.W.Frag) : Sp := fun vs H Q _ => ∃ (a : Addr) (ns : List Int), vs = [.ref a] ∧ SqL K H a (ns.map V.int) ∧ ns.length ≤ 63 ∧
  ∀ t d r g gs wr kvs Rs G H', Same H H' → H t = none → H' t = some (.tup [.ref d, .ref r, .ref g]) → H d = none → H r = none → StateAt H' d r g gs wr kvs Rs G → Q (.ref t) H'
/-- a pair (guild, due) -/
def PairAt (H : Hp) (p : Addr) (kv : Str × List Int) : Prop := ∃ a, H p = some (.tup [.str kv.1, .ref a]) ∧ H a = some (.tup (kv.2.map V.int))
theorem PairAt.kt {H H' : Hp} {p : Addr} {kv : Str × List Int} (k : KTu H H') (h : PairAt H p kv) : PairAt H' p kv := by
  obtain ⟨a, h1, h2⟩ := h
  exact ⟨a, k _ _ h1, k _ _ h2⟩
theorem pair_split {K : PySem.W.Frag} {H : Hp} : ∀ {ps : List Addr} {kvs : List (Str × List Int)}, Paired (PairAt H) ps kvs → ∃ qs : List (Key × V), Paired (fun p kv => SqT K H p [kV kv.1, kv.2]) ps qs ∧ Paired (DueAt H) qs kvs
  | _, _, .nil => ⟨[], .nil, .nil⟩
  | p :: ps, kv :: kvs, .cons h t => by
    obtain ⟨qs, h1, h2⟩ := pair_split (K := K) t
    obtain ⟨a, g1, g2⟩ := h
    exact ⟨(Sum.inr kv.1, .ref a) :: qs, .cons (SqT.of g1) h1, .cons ⟨rfl, a, rfl, g2⟩ h2⟩
def GangsAt (gs : List Str) (wr : Nat) (H : Hp) (ds : List Addr) : Prop := ∀ x ∈ ds, ∃ G, GangAt H x G ∧ GangOk gs wr G
theorem GangsAt.kt {gs : List Str} {wr : Nat} {H H' : Hp} {ds : List Addr} (k : KTu H H') (h : GangsAt gs wr H ds) : GangsAt gs wr H' ds := fun x hx => by
  obtain ⟨G, h1, h2⟩ := h x hx
  exact ⟨G, h1.kt k, h2⟩
theorem sum_nn : ∀ {ns : List Int}, (∀ n ∈ ns, 0 ≤ n) → 0 ≤ ns.sum
  | [], _ => Int.le_refl _
  | n :: ns, h => by
    rw [List.sum_cons]
    have h1 := h n List.mem_cons_self
    have h2 := sum_nn fun x hx => h x (List.mem_cons_of_mem _ hx)
    omega
theorem paired_get {α β : Type} {R : α → β → Prop} : ∀ {xs : List α} {ys : List β}, Paired R xs ys → ∀ {i : Nat} {x : α}, xs[i]? = some x → ∃ y, ys[i]? = some y ∧ R x y
  | _, _, .nil, _, _, h => by simp at h
  | x :: xs, y :: ys, .cons r t, 0, z, h => by
    cases h
    exact ⟨y, rfl, r⟩
  | x :: xs, y :: ys, .cons r t, i + 1, z, h => paired_get t (i := i) (by simpa using h)
theorem paired_get2 {α β : Type} {R : α → β → Prop} : ∀ {xs : List α} {ys : List β}, Paired R xs ys → ∀ {i : Nat} {y : β}, ys[i]? = some y → ∃ x, xs[i]? = some x ∧ R x y
  | _, _, .nil, _, _, h => by simp at h
  | x :: xs, y :: ys, .cons r t, 0, z, h => by
    cases h
    exact ⟨x, rfl, r⟩
  | x :: xs, y :: ys, .cons r t, i + 1, z, h => paired_get2 t (i := i) (by simpa using h)
theorem map_get {α : Type} {f : α → V} {xs : List α} {i : Nat} {v : V} (h : (xs.map f)[i]? = some v) : ∃ x, xs[i]? = some x ∧ v = f x := by
  rw [List.getElem?_map] at h
  cases e : xs[i]? with
  | none => rw [e] at h; cases h
  | some x =>
    rw [e] at h
    exact ⟨x, rfl, (Option.some.inj h).symm⟩
theorem small63 {n : Nat} (h : n ≤ 900) : n < sizeLine := small1000 (by omega)
def rLenS (K : PySem.W.Frag) : List V → Hp → VK → Prop := fun xs H Q => ∃ p ys, xs = [.ref p] ∧ (SqL K H p ys ∨ SqT K H p ys) ∧ Q (.int ys.length) H
def rTupOf (K : PySem.W.Frag) : List V → Hp → VK → Prop := fun xs H Q => ∃ p ys, xs = [.ref p] ∧ ((SqL K H p ys ∧ ∀ l, H l = none → Q (.ref l) (upd H l (.tup ys))) ∨ (SqT K H p ys ∧ Q (.ref p) H))
def rLstOf (K : PySem.W.Frag) : List V → Hp → VK → Prop := fun xs H Q => ∃ p ys, xs = [.ref p] ∧ (SqL K H p ys ∨ SqT K H p ys) ∧ ∀ l, H l = none → Q (.ref l) (upd H l (.lst ys))
end My

namespace My
open PySem PySem.Spec PyProof.Rows L2 GX GxR
/-! the same, as the gangs' laws say it -/
def Lf (x y : V) : Prop := (∃ b, x = .bl b ∧ y = .bl b) ∨ (∃ i, x = .int i ∧ y = .int i) ∨ (∃ z, x = .str z ∧ y = .str z)
def Sm (H : Hp) : Nat → V → V → Prop
  | 0, x, y => Lf x y
  | n + 1, x, y => Lf x y ∨ ∃ (a b : Addr) (xs ys : List V), x = .ref a ∧ y = .ref b ∧ ((H a = some (.lst xs) ∧ H b = some (.lst ys)) ∨ (H a = some (.tup xs) ∧ H b = some (.tup ys))) ∧ xs.length = ys.length ∧ xs.length < 100000 ∧
      ∀ (i : Nat) (x y : V), xs[i]? = some x → ys[i]? = some y → Sm H n x y
theorem Sm.leaf {H : Hp} {x y : V} (h : Lf x y) : ∀ n, Sm H n x y
  | 0 => h
  | _ + 1 => .inl h
theorem Sm.same {H H' : Hp} (e : Same H H') : ∀ (n : Nat) (x y : V), Sm H n x y → Sm H' n x y
  | 0, _, _, h => h
  | n + 1, x, y, h => by
    rcases h with h | ⟨a, b, xs, ys, e1, e2, h, hl, hl2, k⟩
    · exact .inl h
    · refine .inr ⟨a, b, xs, ys, e1, e2, ?_, hl, hl2, fun i x y h1 h2 => Sm.same e n x y (k i x y h1 h2)⟩
      rcases h with ⟨h1, h2⟩ | ⟨h1, h2⟩
      · exact .inl ⟨e _ _ h1, e _ _ h2⟩
      · exact .inr ⟨e _ _ h1, e _ _ h2⟩
theorem sm_int {H : Hp} {n : Nat} (i : Int) : Sm H n (.int i) (.int i) := Sm.leaf (.inr (.inl ⟨i, rfl, rfl⟩)) n
theorem sm_str {H : Hp} {n : Nat} (z : Str) : Sm H n (.str z) (.str z) := Sm.leaf (.inr (.inr ⟨z, rfl, rfl⟩)) n
theorem sm_bl {H : Hp} {n : Nat} (b : Bool) : Sm H n (.bl b) (.bl b) := Sm.leaf (.inl ⟨b, rfl, rfl⟩) n
theorem sm_lst {H : Hp} {n : Nat} {p q : Addr} {xs ys : List V} (h1 : H p = some (.lst xs)) (h2 : H q = some (.lst ys)) (hs : xs.length < 100000) (k : Prs (Sm H n) xs ys) : Sm H (n + 1) (.ref p) (.ref q) :=
  .inr ⟨p, q, xs, ys, rfl, rfl, .inl ⟨h1, h2⟩, k.len, hs, k.get⟩
theorem sm_tup {H : Hp} {n : Nat} {p q : Addr} {xs ys : List V} (h1 : H p = some (.tup xs)) (h2 : H q = some (.tup ys)) (hs : xs.length < 100000) (k : Prs (Sm H n) xs ys) : Sm H (n + 1) (.ref p) (.ref q) :=
  .inr ⟨p, q, xs, ys, rfl, rfl, .inr ⟨h1, h2⟩, k.len, hs, k.get⟩
theorem sm_ints {H : Hp} {n : Nat} {p q : Addr} {ns : List Int} (h1 : H p = some (.tup (ns.map V.int))) (h2 : H q = some (.tup (ns.map V.int))) (hs : ns.length < 100000) : Sm H (n + 1) (.ref p) (.ref q) :=
  sm_tup h1 h2 (by rw [List.length_map]; exact hs) (Prs.ints (fun i => sm_int i) ns)
def spSame (n : Nat) : Sp := fun vs H Q _ => ∃ x y : V, vs = [x, y] ∧ Sm H n x y ∧ ∀ H', Same H H' → Q (.bl true) H'
theorem prs_strs {R : V → V → Prop} (r : ∀ z, R (.str z) (.str z)) : ∀ zs : List Str, Prs R (zs.map V.str) (zs.map V.str)
  | [] => .nil
  | z :: zs => .cons (r z) (prs_strs r zs)
/-- a gang is the same as another of the same letters -/
theorem sm_gang {H : Hp} {n : Nat} {g g' : Addr} {G : Gang} (h : GangAt H g G) (h' : GangAt H g' G) (hl : G.want.length < 100000) : Sm H (n + 2) (.ref g) (.ref g') := by
  obtain ⟨w, h1, h2⟩ := h
  obtain ⟨w', h1', h2'⟩ := h'
  exact sm_tup h1 h1' (by show 7 < 100000; decide) (.cons (sm_str _) (.cons (sm_str _) (.cons (sm_int _) (.cons (sm_int _) (.cons (sm_ints h2 h2' hl) (.cons (sm_str _) (.cons (sm_int _) .nil)))))))
end My

namespace My
open PySem PySem.Spec PyProof.Rows L2 GX GxR
def spTimes (K : PySem.W.Frag) (T : Addr) : Sp := fun vs H Q _ => ∃ (a : Addr) (n : Int) (xs : List Int), vs = [.ref a, .int n] ∧ SqT K H a (xs.map V.int) ∧ xs.length ≤ 1000 ∧ 0 ≤ n ∧ n ≤ 1000000000 ∧ TabG H T ∧
  ∀ p H', TabG H' T → Kp [T] H H' → H p = none → H' p = some (.tup ((xs.map (· * n)).map V.int)) → Q (.ref p) H'
/-- what all tasks of a gang want -/
def Gang.whole (G : Gang) : List Int := G.want.map (· * G.many)
def spWhole (T : Addr) : Sp := fun vs H Q _ => ∃ (g : Addr) (G : Gang), vs = [.ref g] ∧ GangAt H g G ∧ G.want.length ≤ 1000 ∧ 0 ≤ G.many ∧ G.many ≤ 1000000000 ∧ TabG H T ∧
  ∀ p H', TabG H' T → Kp [T] H H' → H p = none → H' p = some (.tup (G.whole.map V.int)) → Q (.ref p) H'
def spTimesS (K : PySem.W.Frag) : Sp := fun vs H Q _ => ∃ (a : Addr) (n : Int) (xs : List Int), vs = [.ref a, .int n] ∧ SqT K H a (xs.map V.int) ∧ xs.length ≤ 1000 ∧ 0 ≤ n ∧ n ≤ 1000000000 ∧
  ∀ p H', Same H H' → H p = none → H' p = some (.tup ((xs.map (· * n)).map V.int)) → Q (.ref p) H'
def spWholeS : Sp := fun vs H Q _ => ∃ (g : Addr) (G : Gang), vs = [.ref g] ∧ GangAt H g G ∧ G.want.length ≤ 1000 ∧ 0 ≤ G.many ∧ G.many ≤ 1000000000 ∧
  ∀ p H', Same H H' → H p = none → H' p = some (.tup (G.whole.map V.int)) → Q (.ref p) H'
theorem whole_tab (T : Addr) (vs : List V) (H : Hp) (Q : VK) (E : XK) (h : spWhole T vs H Q E) : spWholeS vs H Q E := by
  obtain ⟨g, G, e, h1, h2, h3, h4, hT, q⟩ := h
  exact ⟨g, G, e, h1, h2, h3, h4, fun p H' s n h => q p H' (TabG.same s hT) (Same.kp _ s) n h⟩
theorem kt_tab {T : Addr} {H H' : Hp} (t : TabG H T) (k : Kp [T] H H') : KTu H H' := fun x xs h => k x _ (fun z => by
  obtain ⟨ps, h1, _⟩ := t
  rw [List.mem_singleton.mp z, h1] at h
  cases h) h
theorem tab_lst {T p : Addr} {H H' : Hp} {xs : List V} (t : TabG H T) (k : Kp [T] H H') (h : H p = some (.lst xs)) : H' p = some (.lst xs) := k _ _ (fun z => by
  obtain ⟨ps, h1, _⟩ := t
  rw [List.mem_singleton.mp z, h1] at h
  cases h) h
theorem rep_sum (n : Int) : ∀ v : Nat, (List.replicate v n).sum = n * (v : Int)
  | 0 => by simp
  | v + 1 => by
    rw [List.replicate_succ, List.sum_cons, rep_sum n v, Int.natCast_add, Int.mul_add]
    show n + n * v = n * v + n * 1
    rw [Int.mul_one, Int.add_comm]
def spLaw (K : PySem.W.Frag) (Ts : List Addr) : Sp := fun vs H Q _ => ∃ (a : Addr) (ns : List Int), vs = [.ref a] ∧ SqL K H a (ns.map V.int) ∧ ns.length ≤ 63 ∧ (∀ T ∈ Ts, TabG H T) ∧ ∀ H', Q (.bl true) H'
theorem amt_len {gs : List Str} {wr : Nat} {G : Gang} (h : GangOk gs wr G) (w8 : wr ≤ 8) : G.want.length ≤ 8 := by rw [h.wlen]; exact w8
end My

namespace My
open PySem PySem.W PySem.Spec PyProof.Rows L2
section
variable {X : Cx} {pins : List (Addr × Obj)} {σ : L2.St} {H : Hp} {s : Shared}
/-- an own def that a built-in's built-in calls -/
theorem run_in2 {Q : VK} {us : List Value} {vs : List V} {k : Nat} {f : Addr} {fd : FuncData} {ps : List Str} {sp : Sp} (F : FnOk X.prog X.w X.K X.mg X.base CX0 k f fd ps sp) (hr : Room (k + 2) X.A) (hb : L2.Binds X.K fd ps []) (I : Inv X pins σ H s) (r : Vals vs us) (h : sp vs H Q E0) :
    wpAny (model X.prog X.w) X.A.in1.in1 (call (.ref f) us) (EP X pins σ Q) (fun _ _ => False) s := by
  have hl : (us ++ []).length = ps.length := by
    rw [List.append_nil, ← r.length]
    exact F.len _ _ _ _ h
  have hbt := hb s us I.kIn hl
  rw [List.append_nil] at hbt
  refine wpAny_call (codeAny_mono (F.run X.A.in1.in1 X.stack s H ⟨us, []⟩ us vs Q E0 hr.in1.in1 I.env0.in1.in1 hbt r h) fun z s' hq => ?_)
  cases z with
  | error e => exact hq
  | ok fl =>
    cases fl with
    | ret u => exact I.after hq
    | next => exact hq
    | brk => exact hq
    | cont => exact hq
/-- a place that is ours alone -/
structure Ours (X : Cx) (pins : List (Addr × Obj)) (p : Addr) : Prop where
  late : X.s_0.heap.objs.size ≤ p
  loc : p ≠ X.env.locals
  fs : p ∉ X.fs
  cell : ∀ x c, X.env.cells.lookup x = some c → c ≠ p
  pin : ∀ q ∈ X.pn ++ pins, q.1 ≠ p
theorem ours_new (I : Inv X pins σ H s) {p : Addr} (h : s.heap.objs.size ≤ p) : Ours X pins p := by
  refine ⟨Nat.le_trans I.sz h, fun z => ?_, I.nofs h, fun x c e z => ?_, fun q hq z => ?_⟩
  · have q := I.lt
    rw [← z] at q
    exact absurd (Nat.lt_of_lt_of_le q h) (Nat.lt_irrefl _)
  · obtain ⟨v, o, ho, _⟩ := I.cell x c e
    have q := Heap.lt_size ho
    rw [z] at q
    exact absurd (Nat.lt_of_lt_of_le q h) (Nat.lt_irrefl _)
  · obtain ⟨e, _⟩ := I.pin q hq
    have q := Heap.lt_size e
    rw [z] at q
    exact absurd (Nat.lt_of_lt_of_le q h) (Nat.lt_irrefl _)
/-- two of our places have turned; the one is now a list that is tracked -/
theorem turned2 {h' : Heap} {t' : Nat} {a c : Addr} {ys : List V} (I : Inv X pins σ H s) (oa : Ours X pins a) (oc : Ours X pins c) (na : H a = none) (nc : H c = none) (hac : a ≠ c)
    (k : ∀ b o, b ≠ a → b ≠ c → s.heap.get? b = some o → h'.get? b = some o) (new : ObjOk X.prog X.w (upd H a (.lst ys)) h' a (.lst ys)) :
    Inv X pins σ (upd H a (.lst ys)) { s with heap := h', toks := t' } := by
  have nt : ∀ b u, H b = some u → b ≠ a := fun b u e z => by
    rw [z, na] at e
    cases e
  have nt2 : ∀ b u, H b = some u → b ≠ c := fun b u e z => by
    rw [z, nc] at e
    cases e
  have off : ∀ {b : Addr}, b ∉ [a, c] → b ≠ a ∧ b ≠ c := fun {b} h => ⟨fun z => h (by simp [z]), fun z => h (by simp [z])⟩
  refine I.step (g' := s.gens) (d' := s.drawn) (ch := [a, c]) (fun b hb => ?_) (fun b o _ _ hc e _ => k b o (off hc).1 (off hc).2 e) (fun b o _ _ hc e _ => ⟨o.slots, k b o (off hc).1 (off hc).2 e⟩) (fun b o hc e n => by rw [upd_ne (off hc).1]; exact n)
    (fun b o hc e => ⟨o, k b o (off hc).1 (off hc).2 e⟩) (fun b xs e => by rw [upd_ne (nt b _ e)]; exact e) (fun b o u e => by rw [upd_ne (nt b _ e)]; exact e) (fun b ps e => ⟨#[], by rw [upd_ne (nt b _ e), e]; simp⟩) (fun m hm => ?_) (fun b u e => ?_) I.bare
  · rcases List.mem_cons.mp hb with z | z
    · rw [z]
      exact ⟨.inr oa.late, oa.loc, oa.cell, oa.pin⟩
    · rw [List.mem_singleton.mp z]
      exact ⟨.inr oc.late, oc.loc, oc.cell, oc.pin⟩
  · obtain ⟨o, es, ep, ho, r⟩ := hm
    exact ⟨o, es, ep, k _ o oa.loc.symm oc.loc.symm ho, r⟩
  · by_cases hb : b = a
    · subst hb
      rw [upd_same] at e
      cases e
      exact new
    · rw [upd_ne hb] at e
      refine (I.hok b u e).stay (fun x v hx q => ?_) (fun x q => by rw [upd_ne (nt x _ q)]; exact q) fun x xs q => by rw [upd_ne (nt x _ q)]; exact q
      rcases hx with z | z
      · rw [z] at q ⊢
        exact k b v hb (nt2 b u e) q
      · exact k x v (nt x _ z) (nt2 x _ z) q
/-- one of our places has turned, and is held as it is now -/
theorem turned1 {h' : Heap} {t' : Nat} {c : Addr} {o2 : Obj} (I : Inv X pins σ H s) (oc : Ours X pins c) (nc : H c = none) (k : ∀ b o, b ≠ c → s.heap.get? b = some o → h'.get? b = some o) (e2 : h'.get? c = some o2) (d2 : ∀ v, o2.data ≠ .cell v) :
    Inv X ((c, o2) :: pins) σ H { s with heap := h', toks := t' } := by
  have I2 := I.turned (t' := t') (it := c) k nc oc.loc (.inr oc.late) oc.cell oc.pin
  refine I2.pins_of fun p hp => ?_
  rcases List.mem_cons.mp hp with z | z
  · rw [z]
    exact ⟨e2, nc, oc.loc, oc.fs, d2⟩
  · exact I2.pin p (List.mem_append_right _ z)
end
def pairD (p : Int × Int) : PyData := .tuple [.int p.1, .int p.2]
def keyLe (ky : V → Int × Int) (x y : V) : Bool := decide ((ky x).1 < (ky y).1 ∨ ((ky x).1 = (ky y).1 ∧ (ky x).2 ≤ (ky y).2))
theorem each_vals : ∀ {xs : List V} {us : List Value}, Vals xs us → EachIs (fun v x => RelV x v) us xs
  | _, _, .nil => .nil
  | _, _, .cons r t => .cons r (each_vals t)
theorem vals_each : ∀ {us : List Value} {xs : List V}, EachIs (fun v x => RelV x v) us xs → Vals xs us
  | _, _, .nil => .nil
  | _, _, .cons r t => .cons r (vals_each t)
theorem rd_pair {P : Program} {w : World} {H : Hp} {h : Heap} {t : Addr} {p : Int × Int} (ok : HOk P w H h) (e : H t = some (.tup [.int p.1, .int p.2])) : ∃ as, Reads h (.ref t) (pairD p) as := by
  obtain ⟨_, its, r, o, ho, hc, n, hd⟩ := ok _ _ e
  obtain ⟨u1, u2, rfl, ri, rj⟩ := vals2 r
  obtain ⟨t1, rfl⟩ := ri
  obtain ⟨t2, rfl⟩ := rj
  exact ⟨_, .tuple ho hc hd (.cons (.int _ _) (.cons (.int _ _) .nil))⟩
section
variable {X : Cx} {pins : List (Addr × Obj)} {σ : L2.St} {H : Hp} {s : Shared}
/-- a heap without one of its objects -/
def lessOne (h : Heap) (c : Addr) : Heap := h.update c fun o => ⟨o.cls, o.dict, .freed, o.slots⟩
theorem lessOne_at (h : Heap) (c : Addr) : (lessOne h c).get? c = none := by
  unfold lessOne Heap.get?
  cases h with
  | mk objs l =>
    show (match (objs.modify c _)[c]? with | some ⟨_, _, .freed, _⟩ => none | o => o) = none
    rw [Array.getElem?_modify]
    simp only [if_true]
    cases e : objs[c]? with
    | none => rfl
    | some o => rfl
theorem lessOne_ne {h : Heap} {b c : Addr} (hb : b ≠ c) : (lessOne h c).get? b = h.get? b := Heap.get?_update_ne _ _ _ _ hb
/-- the keys' own def, for the items -/
def KeyFn (sp : Sp) (ky : V → Int × Int) (xs : List V) (H : Hp) : Prop :=
  ∀ x ∈ xs, ∀ H1, Same H H1 → ∀ Q, (∀ t H2, Same H1 H2 → H2 t = some (.tup [.int (ky x).1, .int (ky x).2]) → Q (.ref t) H2) → sp [x] H1 Q E0
def kDat (ky : V → Int × Int) (x : V) : PyData := pairD (ky x)
theorem al_keys (ky : V → Int × Int) (xs : List V) : AllAlike (xs.map (kDat ky)) := AllAlike.of fun _ _ => by simp [kDat, pairD, alike, alikeAll]
theorem so_keys (ky : V → Int × Int) (xs : List V) : Sortable (xs.map (kDat ky)) := Sortable.tuples fun _ => ⟨_, _, rfl⟩
theorem dp_keys (ky : V → Int × Int) (x : V) : (kDat ky x).depth = 1 := by simp [kDat, pairD, PyData.depth, PyData.depthAll]
/-- the list of keys: tuples that are tracked -/
def KeysAt (H : Hp) (ky : V → Int × Int) (ts : List Addr) (xs : List V) : Prop := Paired (fun t x => H t = some (.tup [.int (ky x).1, .int (ky x).2])) ts xs
theorem keys_read {P : Program} {w : World} {h : Heap} (ok : HOk P w H h) (ky : V → Int × Int) : ∀ {ts : List Addr} {xs : List V}, KeysAt H ky ts xs → EachIs (fun v d => ∃ as, Reads h v d as) (ts.map Value.ref) (xs.map (kDat ky))
  | _, _, .nil => .nil
  | _, _, .cons r t => .cons (rd_pair ok r) (keys_read ok ky t)
theorem sort_rest {k : Nat} {f : Addr} {fd : FuncData} {ps : List Str} {sp : Sp} {a kS : Addr} {e1 : Nat} {vs : List Value} {xs : List V} {ky : V → Int × Int} {P : PySem.Fin → Shared → Prop} {E : Value → Shared → Prop}
    (F : FnOk X.prog X.w X.K X.mg X.base CX0 k f fd ps sp) (hr : Room (k + 2) X.A) (hb : L2.Binds X.K fd ps [])
    (I : Inv X pins σ H s) (oa : Ours X pins a) (oc : Ours X pins kS) (hka : kS ≠ a) (na : H a = none) (nc : H kS = none) (ha : s.heap.get? a = some (seqObj "list" #[] e1)) (hk : s.heap.get? kS = some (seqObj "list" #[] 0))
    (rv : Vals xs vs) (hl : xs.length ≤ 1000) (kf : KeyFn sp ky xs H)
    (q : ∀ s' H', Inv X pins σ (upd H' a (.lst (xs.mergeSort (keyLe ky)))) s' → Same H H' → H' a = none → P (.done (.ret .none)) s') :
    wpAny (model X.prog X.w) X.A.in1.in1 (ksk_rest a (.ref f) false vs.toArray e1 (.ref kS)) P E s := by
  have hlv : vs.length = xs.length := rv.length.symm
  have z1000 : ∀ {n : Nat}, n ≤ 1000 → n ≤ sizeLine := fun h => Nat.le_of_lt (small1000 h)
  unfold ksk_rest
  refine wpAny_bind (wpAny_rule ?_)
  rw [List.forIn_toArray]
  have pa : ∀ (e : Nat) (kA : Array Value) (s1 : Shared) (H1 : Hp), Inv X ((a, seqObj "list" #[] e1) :: (kS, seqObj "list" kA e) :: pins) σ H1 s1 → s1.heap.get? a = some (seqObj "list" #[] e1) ∧ s1.heap.get? kS = some (seqObj "list" kA e) ∧ H1 a = none ∧ H1 kS = none := fun e kA s1 H1 J => by
    obtain ⟨g1, g2, _⟩ := J.pin (a, seqObj "list" #[] e1) (List.mem_append_right _ List.mem_cons_self)
    obtain ⟨g3, g4, _⟩ := J.pin (kS, seqObj "list" kA e) (List.mem_append_right _ (List.mem_cons_of_mem _ List.mem_cons_self))
    exact ⟨g1, g3, g2, g4⟩
  refine wpAny_bind (ksk_fold (fun i s1 => ∃ (H1 : Hp) (ts : List Addr) (e : Nat), Inv X ((a, seqObj "list" #[] e1) :: (kS, seqObj "list" (ts.map Value.ref).toArray e) :: pins) σ H1 s1 ∧ Same H H1 ∧ KeysAt H1 ky ts (xs.take i)) vs 0 s ?first ?turn ?last)
  case first =>
    refine ⟨H, [], 0, I.pins_of fun p hp => ?_, Same.refl _, .nil⟩
    rcases List.mem_cons.mp hp with z | hp
    · rw [z]
      exact ⟨ha, na, oa.loc, oa.fs, fun v z => by cases z⟩
    · rcases List.mem_cons.mp hp with z | hp
      · rw [z]
        exact ⟨hk, nc, oc.loc, oc.fs, fun v z => by cases z⟩
      · exact I.pin p (List.mem_append_right _ hp)
  case turn =>
    rintro j u s1 hu ⟨H1, ts, e, J, sm, kt⟩
    rw [Nat.zero_add] at kt ⊢
    have hj : j < vs.length := (List.getElem?_eq_some_iff.mp hu).1
    have hxj : xs[j]? = some xs[j] := List.getElem?_eq_getElem (by omega)
    obtain ⟨u', hu', rx⟩ := rv.get hxj
    rw [hu] at hu'
    obtain rfl := Option.some.inj hu'
    have lt : ts.length = j := by
      have := kt.length
      rw [List.length_take] at this
      omega
    refine wpAny_bind (wpAny_attempt (wpAny_mono (run_in2 (us := [u]) (vs := [xs[j]]) F hr hb J (.cons rx .nil) (kf xs[j] (List.mem_of_getElem? hxj) H1 sm (fun v H2 => ∃ t, v = .ref t ∧ Same H1 H2 ∧ H2 t = some (.tup [.int (ky xs[j]).1, .int (ky xs[j]).2])) (fun t H2 h1 h2 => ⟨t, rfl, h1, h2⟩))) (fun v s2 he => ?_) fun _ _ hF => hF.elim))
    obtain ⟨y, H2, J2, ry, t, rfl, sm2, et⟩ := he
    obtain rfl : v = Value.ref t := ry
    obtain ⟨g1, g2, g3, g4⟩ := pa _ _ _ _ J2
    have arr : (ts.map Value.ref).toArray.push (Value.ref t) = ((ts ++ [t]).map Value.ref).toArray := by simp
    obtain ⟨e', g5⟩ : ∃ e', (s2.heap.update kS (Obj.mapSeq (·.push (Value.ref t)))).get? kS = some (seqObj "list" ((ts ++ [t]).map Value.ref).toArray e') := ⟨_, by rw [← arr]; exact get?_update_seq g2 (·.push (Value.ref t))⟩
    have ku : ∀ b o, b ≠ kS → s2.heap.get? b = some o → (s2.heap.update kS (Obj.mapSeq (·.push (Value.ref t)))).get? b = some o := fun b o hb e => by
      rw [Heap.get?_update_ne _ _ _ _ hb]
      exact e
    have J3 : Inv X ((a, seqObj "list" #[] e1) :: pins) σ H2 s2 := J2.pins_of fun p hp => by
      rcases List.mem_cons.mp hp with z | hp
      · exact J2.pin p (List.mem_append_right _ (by rw [z]; exact List.mem_cons_self))
      · exact J2.pin p (List.mem_append_right _ (List.mem_cons_of_mem _ (List.mem_cons_of_mem _ hp)))
    have oc3 : Ours X ((a, seqObj "list" #[] e1) :: pins) kS := ⟨oc.late, oc.loc, oc.fs, oc.cell, fun p hp => by
      rcases List.mem_append.mp hp with z | z
      · exact oc.pin p (List.mem_append_left _ z)
      · rcases List.mem_cons.mp z with z | z
        · rw [z]
          exact hka.symm
        · exact oc.pin p (List.mem_append_right _ z)⟩
    have J4 := turned1 (t' := s2.toks) J3 oc3 g4 ku g5 (fun v z => by cases z)
    refine wpAny_bind (listUpdate_at g2 rfl ?_ (by rw [List.size_toArray, List.length_map, lt]; exact z1000 (by omega)) (by rw [Array.size_push, List.size_toArray, List.length_map, lt]; exact Nat.succ_le_succ (z1000 (by omega))))
    refine wpAny_pure ⟨rfl, H2, ts ++ [t], e', J4.pins_of fun p hp => J4.pin p (List.mem_append_right _ ?_), sm.trans sm2, ?_⟩
    · rcases List.mem_cons.mp hp with z | hp
      · rw [z]
        exact List.mem_cons_of_mem _ List.mem_cons_self
      · rcases List.mem_cons.mp hp with z | hp
        · rw [z]
          exact List.mem_cons_self
        · exact List.mem_cons_of_mem _ (List.mem_cons_of_mem _ hp)
    · rw [List.take_add_one, hxj]
      exact Paired.snoc (Paired.mapP kt fun _ _ z => sm2 _ _ z) et
  case last =>
    rintro s1 ⟨H1, ts, e, J, sm, kt⟩
    rw [Nat.zero_add, List.take_of_length_le (by omega)] at kt
    obtain ⟨g1, g2, g3, g4⟩ := pa _ _ _ _ J
    have rd := keys_read J.hok ky kt
    have lts : ts.length = xs.length := kt.length
    refine wpAny_bind (listItems_at g2 rfl ?_)
    have J0 : Inv X pins σ H1 s1 := J.pins_of fun p hp => J.pin p (List.mem_append_right _ (List.mem_cons_of_mem _ (List.mem_cons_of_mem _ hp)))
    have rd' : EachIs (fun v d => ∃ as, Reads s1.heap v d as) (ts.map Value.ref).toArray.toList (xs.map (kDat ky)) := rd
    refine keyH_end (κ := dataKind s1.heap (xs.map (kDat ky))) (h₁ := lessOne s1.heap kS) (fun b o hb hx => ?_) (lessOne_at _ _) g2 g1 hka (SortsAt.data (s := s1) rd' (al_keys ky xs) (so_keys ky xs) fun d hd => ?_) (by rw [List.size_toArray, List.length_map]; omega) (z1000 (by omega)) fun h3 tk3 c3 k3 n3 => ?_
    · by_cases z : b = kS
      · rw [z, lessOne_at] at hx
        cases hx
      · rwa [lessOne_ne z] at hx
    · obtain ⟨x, _, rfl⟩ := List.mem_map.mp hd
      rw [dp_keys]
      have := hr.un
      show X.A.units + 2 + 1 < _
      omega
    have ko : KeyedOut false (xs.map (kDat ky)) vs (sortVals (dataKind s1.heap (xs.map (kDat ky))) false (ts.map Value.ref).toArray.toList vs) := ⟨s1.heap, _, al_keys ky xs, rfl, rd'⟩
    have eo := keyedOut_each (kDat ky) ko (each_vals rv)
    have le : dataLe false (kDat ky) = keyLe ky := dataLe_ii (fun x => (ky x).1) (fun x => (ky x).2)
    rw [le] at eo
    refine q _ H1 (turned2 (t' := tk3) J0 oa oc g3 g4 hka.symm (fun b o hba hbk hx => k3 b o hba (by rw [lessOne_ne hbk]; exact hx)) ⟨?_, _, c3, vals_each eo, n3⟩) sm g3
    rw [List.length_mergeSort]
    exact z1000 hl
/-- sorted(xs, key=f), f an own def whose keys are pairs of whole numbers -/
def rSortK (K : PySem.W.Frag) (sp : Sp) (f : Addr) : List V → List V → Hp → VK → Prop := fun vs zs H Q => ∃ (a : Addr) (xs : List V) (ky : V → Int × Int), vs = [.ref a] ∧ zs = [.ref f] ∧ SqL K H a xs ∧ xs.length ≤ 1000 ∧ KeyFn sp ky xs H ∧
  ∀ p H', Same H H' → H p = none → H' p = some (.lst (xs.mergeSort (keyLe ky))) → Q (.ref p) H'
theorem cr_sortK {k : Nat} {f : Addr} {fd : FuncData} {ps : List Str} {sp : Sp} (F : FnOk X.prog X.w X.K X.mg X.base CX0 k f fd ps sp) (hr : Room (k + 2) X.A) (hb : L2.Binds X.K fd ps []) : CallRK X (.builtin "sorted") ["key"] (rSortK X.K sp f) := by
  intro pins s σ H vs zs us ws Q I r1 r2 h
  obtain ⟨a, xs, ky, rfl, rfl, hs, hl, kf, q⟩ := h
  obtain ⟨u, rfl, ru⟩ := vals1 r1
  obtain ⟨u2, rfl, ru2⟩ := vals1 r2
  obtain rfl : u = Value.ref a := ru
  obtain rfl : u2 = Value.ref f := ru2
  obtain ⟨its, rv, pl, _⟩ := I.list hs
  have z1000 : ∀ {n : Nat}, n ≤ 1000 → n ≤ sizeLine := fun h => Nat.le_of_lt (small1000 h)
  have li : its.length ≤ sizeLine := by
    rw [← rv.length]
    exact z1000 hl
  show wpAny (model X.prog X.w) X.A (call (.builtin "sorted") [.ref a] [(Str.ofString "key", .ref f)]) _ _ s
  refine sorted_of_sort pl.isList li (ksk_s1 _ _) (fun _ => ksk_l1 _ _) fun E' => ?_
  rw [ksk_t1]
  have at0 := copyHeap_at s.heap its
  obtain ⟨ep, at1⟩ : ∃ ep, ((copyHeap s.heap its).update (s.heap.objs.size + 1) (Obj.mapSeq fun _ => #[])).get? (s.heap.objs.size + 1) = some (seqObj "list" #[] ep) := ⟨_, get?_update_seq at0 _⟩
  unfold ksk_tree
  refine wpAny_bind (listItems_at at0 rfl ?_)
  refine wpAny_bind (listUpdate_at at0 rfl ?_ (by rw [List.size_toArray]; exact li) (Nat.zero_le _))
  refine wpAny_bind (seqEpoch_at at1 rfl ?_)
  refine wpAny_bind (wpAny_newTuple ?_ (by show its.length ≤ _; exact li))
  refine wpAny_bind (wpAny_newList ?_ (Nat.zero_le _))
  refine wpAny_holding ?_
  have kpt : ∀ b o, s.heap.get? b = some o → (sortingHeap (copyHeap s.heap its) (s.heap.objs.size + 1) its).get? b = some o := fun b o e => sorting_copy_old e
  have I1 := I.kept (t' := s.toks) kpt
  have szc : ((copyHeap s.heap its).update (s.heap.objs.size + 1) (Obj.mapSeq fun _ => #[])).objs.size = s.heap.objs.size + 2 := by
    rw [Heap.size_update]
    unfold copyHeap
    rw [size_push', Heap.size_update, size_push']
  have szk : (((copyHeap s.heap its).update (s.heap.objs.size + 1) (Obj.mapSeq fun _ => #[])).push (seqObj "tuple" its.toArray 0)).objs.size = s.heap.objs.size + 3 := by
    rw [size_push', szc]
  have big : ∀ j : Nat, s.heap.objs.size ≤ s.heap.objs.size + j := fun j => Nat.le_add_right _ _
  refine sort_rest (H := H) (xs := xs) (ky := ky) F hr hb I1 (ours_new I (big 1)) (ours_new I (by rw [szk]; exact big 3)) (by rw [szk]; exact Nat.ne_of_gt (Nat.add_lt_add_left (by decide) _)) (I.hok.fresh (big 1)) (I.hok.fresh (by rw [szk]; exact big 3))
    (Heap.get?_push_of_some _ (Heap.get?_push_of_some _ at1)) (Heap.get?_push_size _ rfl) rv hl kf fun s' H' J sm nn => ⟨rfl, .ref (s.heap.objs.size + 1), _, J, rfl, q _ _ (sm.trans (same_upd nn)) (I.hok.fresh (big 1)) upd_same⟩
end
end My

namespace My
open PySem PySem.Spec PyProof.Rows L2 RT
section
variable {prog : Program} {w : World} {A : Around} {E : Value → Shared → Prop} {s : Shared}
/-- list(it), it a list's iterator from its end -/
theorem call_list_rev {it l : Addr} {items : Array Value} {Q : Value → Shared → Prop} (hh : A.handled = none) (hit : s.heap.IsRevIter it l ((items.size : Int) - 1)) (hl : s.heap.IsList l items) (hne : l ≠ it) (hn : items.size ≤ sizeLine)
    (q : ∀ (h' : Heap) (tk : Nat) (acc : Array Value) (c : Nat), (∀ b o, b ≠ it → s.heap.get? b = some o → h'.get? b = some o) → h'.get? s.heap.objs.size = some (seqObj "list" acc c) → ItemsOf (fun i v => items[items.size - 1 - i]? = some v) acc items.size → Q (.ref s.heap.objs.size) { s with heap := h', toks := tk }) :
    wpAny (model prog w) A (call (.type "list") [.ref it]) Q E s := by
  obtain ⟨oi, hoi, _⟩ := id hit
  obtain ⟨ol, hol, _⟩ := id hl
  have ni : s.heap.objs.size ≠ it := Nat.ne_of_gt (Heap.lt_size hoi)
  have nl : s.heap.objs.size ≠ l := Nat.ne_of_gt (Heap.lt_size hol)
  have nf : s.heap.objs.size ∉ [it, l] := fun z => by
    rcases List.mem_cons.mp z with z | z
    · exact ni z
    · exact nl (List.mem_singleton.mp z)
  refine callType_codes (Q₁ := fun obj s₁ => obj = .ref s.heap.objs.size ∧ s₁ = { s with heap := s.heap.push (seqObj "list" #[] 0) }) F.called_list (F.typeCall_list_1 _) F.entry_list_init (code_list_new _ ⟨rfl, rfl⟩) fun obj s₁ hx => ?_
  obtain ⟨rfl, rfl⟩ := hx
  have e0 : (s.heap.push (seqObj "list" #[] 0)).get? s.heap.objs.size = some (seqObj "list" #[] 0) := Heap.get?_push_size _ rfl
  refine ⟨⟨_, e0, rfl⟩, F.args_list_init_2 _ _, ?_⟩
  show wpAny _ _ (do let old ← Builtin.List.listItems (.ref s.heap.objs.size); Builtin.List.listUpdate (.ref s.heap.objs.size) (fun _ => #[]); letGo old.toList.reverse; Builtin.List.listExtendWith (.ref s.heap.objs.size) (.ref it) .none) _ _ _
  refine wpAny_bind (listItems_at e0 rfl ?_)
  refine wpAny_bind (listUpdate_at e0 rfl ?_ (Nat.zero_le _) (Nat.zero_le _))
  refine wpAny_bind (wpAny_letGo ?_)
  obtain ⟨n1, e1⟩ : ∃ n1, ((s.heap.push (seqObj "list" #[] 0)).update s.heap.objs.size (Obj.mapSeq fun _ => #[])).get? s.heap.objs.size = some (seqObj "list" #[] n1) := ⟨_, get?_update_seq e0 _⟩
  have old : ∀ b o, s.heap.get? b = some o → ((s.heap.push (seqObj "list" #[] 0)).update s.heap.objs.size (Obj.mapSeq fun _ => #[])).get? b = some o := fun b o e => by
    rw [Heap.get?_update_ne _ _ _ _ (Nat.ne_of_lt (Heap.lt_size e))]
    exact Heap.get?_push_of_some _ e
  generalize (s.heap.push (seqObj "list" #[] 0)).update s.heap.objs.size (Obj.mapSeq fun _ => #[]) = h1 at e1 old
  have r1 : h1.IsRevIter it l ((items.size : Int) - 1) := hit.at fun o e => old _ _ e
  have l1 : h1.IsList l items := by
    obtain ⟨o, ho, r⟩ := hl
    exact ⟨o, old _ _ ho, r⟩
  have ty : ({ s with heap := h1 } : Shared).TypeIs (.ref it) "list_reverseiterator" := Heap.IsRevIter.typeIs (s := { s with heap := h1 }) r1
  have no : Builtin.List.listSameRef (.ref s.heap.objs.size) (.ref it) = false := by simp [Builtin.List.listSameRef, ni]
  have W := (Walks.listRev (prog := prog) (w := w) (A := A.in1.in1) hh it l hne items).toS
  unfold Builtin.List.listExtendWith
  refine wpAny_bind (wpAny_typeOf ty ?_)
  rw [if_neg (by rw [no]; decide)]
  refine wpAny_bind (wpAny_pyIter_revIter (s := { s with heap := h1 }) r1 ?_)
  refine wpAny_bind (wpAny_holding ?_)
  unfold Builtin.List.listLengthHint
  refine wpAny_bind (wpAny_specialOf ty nolen_lri ?_)
  show wpAny _ _ (specialOf (Value.ref it) (Str.ofString "__length_hint__") >>= _) _ _ _
  refine wpAny_bind (wpAny_specialOf ty hint_lri ?_)
  generalize nm : ("list_reverseiterator.__length_hint__" : String) = nm0
  wp_delta
  rw [show splitId nm0 = some ("list_reverseiterator", "__length_hint__") from by subst nm; decide +kernel]
  subst nm
  refine wpAny_bind (wpAny_isInstance (b := true) ty (by rw [isSubtype_type]; kernel_rfl) ?_)
  refine wpAny_pure ?_
  rw [if_neg (by decide)]
  have z0 : ((items.size : Nat) : Int) - 1 - ((0 : Nat) : Int) = (items.size : Int) - 1 := by omega
  refine wpAny_pure ⟨plainId_quiet F.plain_extend_loop _, codeAny_extend_loopS W hn _ nf _ items.size 0 _ _ _ rfl (Nat.zero_le _) ⟨Nat.zero_le _, by rw [z0]; exact r1, l1⟩ e1 (ItemsOf.nil _) fun s' acc' c' hm hS hacc => ?_⟩
  rw [Moved.eq_with hm]
  refine ⟨rfl, q s'.heap s'.toks acc' c' (fun b o hb e => hm.heap b o (fun z => ?_) (old _ _ e)) hS hacc⟩
  rcases List.mem_cons.mp z with z | z
  · exact absurd (Heap.lt_size e) (by rw [z]; exact Nat.lt_irrefl _)
  · exact hb (List.mem_singleton.mp z)
end
section
variable {X : Cx}
/-- list(reversed(x)), x a list -/
def tLstRev (K : PySem.W.Frag) (te : TE) : TE := fun σ H Q => te σ H fun v H1 => ∃ (a : Addr) (xs : List V), v = .ref a ∧ SqL K H1 a xs ∧ ∀ p, H1 p = none → Q (.ref p) (upd H1 p (.lst xs.reverse))
theorem pe_lstRev {e : Expr} {te : TE} {p p2 pos pos2 : Pos} (hc : X.calm = true) (hg : Gl X "list") (hm : X.mg "list" = none) (hg2 : Gl X "reversed") (hm2 : X.mg "reversed" = none) (he : PE X e te)
    (h1 : starEach [e] X.env = (false, eval e X.env) :: starEach [] X.env := by rfl)
    (h2 : starEach [.Call (.Name "reversed" p2) [e] [] pos2] X.env = (false, eval (.Call (.Name "reversed" p2) [e] [] pos2) X.env) :: starEach [] X.env := by rfl) :
    PE X (.Call (.Name "list" p) [.Call (.Name "reversed" p2) [e] [] pos2] [] pos) (tLstRev X.K te) := by
  refine ⟨fun pins s σ H Q I h => ?_⟩
  refine Call_ (ld_blt I hg hm bt_list (callWith_type1 (args_cons (Call_ (ld_blt I hg2 hm2 boot_reversed (callWith_type1 (args_cons (thn (he.run pins s σ H _ I h) fun u s1 ⟨v, H1, I1, r1, q1⟩ => args_nil ?_) h1) h1 rfl))) h2) h2 rfl))
  obtain ⟨a, xs, rfl, hq, q⟩ := q1
  obtain rfl : u = Value.ref a := r1
  obtain ⟨its, rv, pl, hz⟩ := I1.list hq
  refine call_reversed_list pl.isList (args_nil ?_)
  have I2 : Inv X pins σ H1 { s1 with heap := s1.heap.push (revObj a ((its.toArray.size : Int) - 1)) } := I1.kept (t' := s1.toks) fun b o e => Heap.get?_push_of_some _ e
  obtain ⟨f0, f1, f2, f3, f4, f5⟩ := I1.fpOk (H' := H1) (b := s1.heap.objs.size) (Nat.le_refl _) (I1.hok.fresh (Nat.le_refl _))
  have li := pl.isList
  obtain ⟨ol, hol, _⟩ := id li
  have hn : its.toArray.size ≤ sizeLine := by
    rw [List.size_toArray, ← rv.length]
    exact hz
  refine call_list_rev (s := { s1 with heap := s1.heap.push (revObj a ((its.toArray.size : Int) - 1)) }) (I1.ok.hd hc) ⟨_, Heap.get?_push_size _ rfl, rfl, rfl⟩ (li.push _) (Nat.ne_of_lt (Heap.lt_size hol)) hn fun h' tk acc c hk hat hi => ?_
  have bigger : s1.heap.objs.size ≤ (s1.heap.push (revObj a ((its.toArray.size : Int) - 1))).objs.size := by
    rw [size_push']
    exact Nat.le_succ _
  generalize hL : (s1.heap.push (revObj a ((its.toArray.size : Int) - 1))).objs.size = L at hat bigger ⊢
  have neL : L ≠ s1.heap.objs.size := by
    rw [← hL, size_push']
    exact Nat.succ_ne_self _
  have oL : Ours X pins L := ours_new I1 bigger
  have oR : Ours X pins s1.heap.objs.size := ours_new I1 (Nat.le_refl _)
  refine ⟨.ref L, upd H1 L (.lst xs.reverse), turned2 (t' := tk) I2 oL oR (I1.hok.fresh bigger) (I1.hok.fresh (Nat.le_refl _)) neL (fun b o _ hb e => hk b o hb e) ⟨?_, acc.toList, c, vals_rev rv hi, ?_⟩, rfl, q _ (I1.hok.fresh bigger)⟩
  · rw [List.length_reverse]
    exact hz
  · rw [Array.toArray_toList]
    exact hat
end
end My

namespace My
open PySem PySem.W PySem.Spec PyProof.Rows L2
section
variable {X : Cx}
theorem shaped_plain {d : PyData} (h : SeqAt.shaped d = true) : d.plain = true := PyData.plain_of_canLay0 d (SeqAt.canLay_of_shaped h)
/-- xs.remove(y): the first that is equal goes -/
def rRemD (K : PySem.W.Frag) : V → List V → Hp → VK → Prop := fun x xs H Q => ∃ (l : Addr) (vs : List V) (y : V) (d : PyData) (ds : List PyData) (j : Nat), x = .ref l ∧ xs = [y] ∧ H l = some (.lst vs) ∧ DpAll K H vs ds ∧ Dp K H y d ∧
  SeqAt.shaped (.list ds) = true ∧ SeqAt.shaped d = true ∧ SeqAt.dataPlace ds d = some j ∧ Q .non (upd H l (.lst (vs.eraseIdx j)))
theorem mt_removeD (hu : X.A.units + 65 < cLine) : MtM X "list.remove" (rRemD X.K) := by
  intro pins s σ H x xs v us Q I rx rxs h
  obtain ⟨l, vs, y, d, ds, j, rfl, rfl, hl, ha, hy, sl, sd, hp, q⟩ := h
  cases rx
  obtain ⟨u, rfl, ru⟩ := rxs.one
  obtain ⟨z, its, n, r, hlen, e⟩ := I.lstM hl
  obtain ⟨bs, r1⟩ := Dp.reads I d y u hy ru
  obtain ⟨as, r2⟩ := Dp.readsAll I ds vs its ha r
  have dd := SeqAt.depth_of_shaped sd
  refine SeqAt.remove_list_data (vs := its.toArray) (xs := ds) (d := d) (j := j) ⟨_, e, rfl, n, rfl⟩ r2 r1 (by have := shaped_plain sl; simpa [PyData.plain] using this) (shaped_plain sd) ?_ hp (by rw [List.size_toArray, ← hlen]; exact z) ?_
  · have := Nat.min_le_right (PyData.depthAll ds) d.depth
    omega
  · have rr := r.eraseIdx j
    refine ⟨.non, _, I.lset (its' := its.eraseIdx j) (t' := s.toks) hl e ?_ rr ?_, rfl, q⟩
    · show its.toArray.eraseIdxIfInBounds j = (its.eraseIdx j).toArray
      rw [List.eraseIdxIfInBounds_toArray]
    · have := List.length_eraseIdx_le vs j
      omega
/-- sorted(xs), xs a list of data that are alike -/
def rSortD (K : PySem.W.Frag) : List V → Hp → VK → Prop := fun vs H Q => ∃ (a : Addr) (xs : List V) (enc : V → PyData), vs = [.ref a] ∧ SqL K H a xs ∧ (∀ x ∈ xs, Dp K H x (enc x)) ∧ AllAlike (xs.map enc) ∧ Sortable (xs.map enc) ∧ (∀ x ∈ xs, (enc x).depth ≤ 60) ∧
  ∀ p, H p = none → Q (.ref p) (upd H p (.lst (xs.mergeSort (dataLe false enc))))
theorem cr_sortD (hu : X.A.units + 64 < cLine) : CallR X (.builtin "sorted") (rSortD X.K) := by
  intro pins s σ H vs us Q I r h
  obtain ⟨a, xs, enc, rfl, hs, hd, hal, hso, hdp, q⟩ := h
  obtain ⟨its, rv, hl, hz⟩ := I.list hs
  rw [Vals.ref1 r]
  have er : ∀ {xs : List V} {its : List Value}, (∀ x ∈ xs, Dp X.K H x (enc x)) → Vals xs its → EachIs (fun v b => ∃ as, Reads s.heap v (enc b) as) its xs := by
    intro xs its hd rv
    induction rv with
    | nil => exact .nil
    | cons r t ih => exact .cons (Dp.reads I _ _ _ (hd _ List.mem_cons_self) r) (ih fun x hx => hd x (List.mem_cons_of_mem _ hx))
  refine sorted_data hl.isList (each_vals rv) (er hd rv) hal hso hz (fun x hx => ?_) fun out ho eo => ?_
  · have := hdp x hx
    omega
  obtain ⟨ep, at1⟩ := sortedAll_at s.heap its out.toArray
  refine ⟨.ref _, upd H (s.heap.objs.size + 1) (.lst (xs.mergeSort (dataLe false enc))), I.laid (t' := s.toks) (fun _ _ => sortedAll_old) (Nat.le_succ _) ⟨?_, out, ep, vals_each eo, at1⟩, rfl, q _ (I.hok.fresh (Nat.le_succ _))⟩
  rw [List.length_mergeSort]
  exact hz
end
end My

namespace My
open PySem PySem.W PySem.Spec PyProof.Rows L2 GX GxR
/-! the order of rows -/
def rowLe (R S : Gang × Int) : Bool := decide (-R.1.rank < -S.1.rank ∨ (-R.1.rank = -S.1.rank ∧ R.2 ≤ S.2))
def ord (Rs : List (Gang × Int)) : List (Gang × Int) := Rs.mergeSort rowLe
theorem rowLe_trans (a b c : Gang × Int) (h1 : rowLe a b = true) (h2 : rowLe b c = true) : rowLe a c = true := by
  unfold rowLe at *
  simp only [decide_eq_true_eq] at *
  omega
theorem rowLe_total (a b : Gang × Int) : (rowLe a b || rowLe b a) = true := by
  unfold rowLe
  simp only [Bool.or_eq_true, decide_eq_true_eq]
  omega
theorem ord_sorted (Rs : List (Gang × Int)) : (ord Rs).Pairwise fun a b => rowLe a b = true := List.pairwise_mergeSort rowLe_trans rowLe_total Rs
theorem ord_perm (Rs : List (Gang × Int)) : (ord Rs).Perm Rs := List.mergeSort_perm Rs rowLe
theorem uniq_sorted {α : Type} {le : α → α → Bool} : ∀ {xs ys : List α}, xs.Perm ys → xs.Pairwise (fun a b => le a b = true) → ys.Pairwise (fun a b => le a b = true) → (∀ a ∈ xs, ∀ b ∈ xs, le a b = true → le b a = true → a = b) → xs = ys
  | [], ys, p, _, _, _ => (List.nil_perm.mp p).symm ▸ rfl
  | x :: xs, [], p, _, _, _ => absurd p.length_eq (by simp)
  | x :: xs, y :: ys, p, hx, hy, anti => by
    have hxy : x = y := by
      have h1 : x ∈ y :: ys := p.mem_iff.mp List.mem_cons_self
      have h2 : y ∈ x :: xs := p.mem_iff.mpr List.mem_cons_self
      rcases List.mem_cons.mp h1 with e | h1
      · exact e
      · rcases List.mem_cons.mp h2 with e | h2
        · exact e.symm
        · exact anti x List.mem_cons_self y (List.mem_cons_of_mem _ h2) ((List.pairwise_cons.mp hx).1 y h2) ((List.pairwise_cons.mp hy).1 x h1)
    subst hxy
    rw [uniq_sorted (List.Perm.cons_inv p) (List.pairwise_cons.mp hx).2 (List.pairwise_cons.mp hy).2 fun a ha b hb => anti a (List.mem_cons_of_mem _ ha) b (List.mem_cons_of_mem _ hb)]
/-- what a gang of a row is, for the laws' own reckoning -/
structure Fit (R : Gang × Int) : Prop where
  name : PySem.PyData.strOk R.1.name = true
  guild : PySem.PyData.strOk R.1.guild = true
  how : PySem.PyData.strOk R.1.how = true
  wlen : R.1.want.length ≤ 8
  amt : Amt R.1.want
  m0 : 0 ≤ R.1.many
  m60 : R.1.many ≤ 60
structure Good2 (Rs : List (Gang × Int)) : Prop where
  fit : ∀ R ∈ Rs, Fit R
  names : (Rs.map (·.1.name)).Nodup
  nums : (Rs.map (·.2)).Nodup
  len : Rs.length ≤ 100
theorem nodup_inj {α β : Type} {f : α → β} : ∀ {xs : List α}, (xs.map f).Nodup → ∀ a ∈ xs, ∀ b ∈ xs, f a = f b → a = b
  | [], _, _, h, _, _, _ => nomatch h
  | x :: xs, nd, a, ha, b, hb, e => by
    rw [List.map_cons, List.nodup_cons] at nd
    rcases List.mem_cons.mp ha with za | ha
    · rcases List.mem_cons.mp hb with zb | hb
      · rw [za, zb]
      · rw [za] at e
        exact absurd (List.mem_map.mpr ⟨b, hb, e.symm⟩) nd.1
    · rcases List.mem_cons.mp hb with zb | hb
      · rw [zb] at e
        exact absurd (List.mem_map.mpr ⟨a, ha, e⟩) nd.1
      · exact nodup_inj nd.2 a ha b hb e
theorem rowLe_anti {Rs : List (Gang × Int)} (h : (Rs.map (·.2)).Nodup) : ∀ a ∈ Rs, ∀ b ∈ Rs, rowLe a b = true → rowLe b a = true → a = b := fun a ha b hb h1 h2 => by
  refine nodup_inj h a ha b hb ?_
  unfold rowLe at h1 h2
  simp only [decide_eq_true_eq] at h1 h2
  show a.2 = b.2
  omega
/-- THE order: any sorted arrangement is it -/
theorem ord_of {Rs Ss : List (Gang × Int)} (h : (Rs.map (·.2)).Nodup) (p : Ss.Perm Rs) (s : Ss.Pairwise fun a b => rowLe a b = true) : Ss = ord Rs :=
  uniq_sorted (p.trans (ord_perm Rs).symm) s (ord_sorted Rs) fun a ha b hb => rowLe_anti h a (p.mem_iff.mp ha) b (p.mem_iff.mp hb)
theorem ord_perm_eq {Rs Ss : List (Gang × Int)} (h : (Rs.map (·.2)).Nodup) (p : Ss.Perm Rs) : ord Ss = ord Rs := ord_of h ((ord_perm Ss).trans p) (ord_sorted Ss)
theorem Good2.perm {Rs Ss : List (Gang × Int)} (h : Good2 Rs) (p : Ss.Perm Rs) : Good2 Ss :=
  ⟨fun R hR => h.fit R (p.mem_iff.mp hR), (p.map (·.1.name)).nodup_iff.mpr h.names, (p.map (·.2)).nodup_iff.mpr h.nums, by rw [p.length_eq]; exact h.len⟩
theorem Good2.sub {Rs Ss : List (Gang × Int)} (h : Good2 Rs) (p : Ss.Sublist Rs) : Good2 Ss :=
  ⟨fun R hR => h.fit R (p.subset hR), (p.map (·.1.name)).nodup h.names, (p.map (·.2)).nodup h.nums, Nat.le_trans p.length_le h.len⟩
/-! rows as data -/
def gangD (G : Gang) : PyData := .tuple [.str G.name, .str G.guild, .int G.rank, .int G.many, .tuple (G.want.map PyData.int), .str G.how, .int G.len]
def rowD (R : Gang × Int) : PyData := .tuple [gangD R.1, .int R.2]
theorem dp_ints {K : PySem.W.Frag} {H : Hp} : ∀ ns : List Int, DpAll K H (ns.map V.int) (ns.map PyData.int)
  | [] => .nil
  | n :: ns => .cons (.int n) (dp_ints ns)
theorem dp_gang {K : PySem.W.Frag} {H : Hp} {g : Addr} {G : Gang} (h : GangAt H g G) : Dp K H (.ref g) (gangD G) := by
  obtain ⟨w, h1, h2⟩ := h
  exact .tup (SqT.of h1) (.cons (.str _) (.cons (.str _) (.cons (.int _) (.cons (.int _) (.cons (.tup (SqT.of h2) (dp_ints _)) (.cons (.str _) (.cons (.int _) .nil)))))))
theorem dp_row {K : PySem.W.Frag} {H : Hp} {r : Addr} {R : Gang × Int} (h : RowAt H r R) : Dp K H (.ref r) (rowD R) := by
  obtain ⟨g, h1, h2⟩ := h
  exact .tup (SqT.of h1) (.cons (dp_gang h2) (.cons (.int _) .nil))
theorem dp_rows {K : PySem.W.Frag} {H : Hp} : ∀ {as : List Addr} {Rs : List (Gang × Int)}, Paired (RowAt H) as Rs → DpAll K H (as.map V.ref) (Rs.map rowD)
  | _, _, .nil => .nil
  | _, _, .cons r t => .cons (dp_row r) (dp_rows t)
theorem lay_ints : ∀ ns : List Int, PyData.canLayAll0 (ns.map PyData.int) = true
  | [] => rfl
  | n :: ns => by
    show (PyData.canLay0 (.int n) && PyData.canLayAll0 (ns.map PyData.int)) = true
    rw [lay_ints ns]
    rfl
theorem dpt_ints (ns : List Int) : PyData.depthAll (ns.map PyData.int) = 0 := depth_ints ns
theorem lay_row {R : Gang × Int} (f : Fit R) : PyData.canLay0 (rowD R) = true := by
  simp [rowD, gangD, PyData.canLay0, PyData.canLayAll0, f.name, f.guild, f.how, lay_ints]
theorem dpt_row (R : Gang × Int) : (rowD R).depth = 3 := by
  simp [rowD, gangD, PyData.depth, PyData.depthAll, dpt_ints]
theorem sh_row {R : Gang × Int} (f : Fit R) : SeqAt.shaped (rowD R) = true := by
  unfold SeqAt.shaped
  rw [lay_row f, dpt_row]
  rfl
theorem lay_rows : ∀ {Rs : List (Gang × Int)}, (∀ R ∈ Rs, Fit R) → PyData.canLayAll0 (Rs.map rowD) = true
  | [], _ => rfl
  | R :: Rs, h => by
    show (PyData.canLay0 (rowD R) && PyData.canLayAll0 (Rs.map rowD)) = true
    rw [lay_row (h R List.mem_cons_self), lay_rows fun S hS => h S (List.mem_cons_of_mem _ hS)]
    rfl
theorem dpt_rows : ∀ Rs : List (Gang × Int), PyData.depthAll (Rs.map rowD) ≤ 3
  | [] => by decide
  | R :: Rs => by
    show PyData.depthAll (rowD R :: Rs.map rowD) ≤ 3
    have := dpt_rows Rs
    simp only [PyData.depthAll, dpt_row]
    omega
theorem sh_rows {Rs : List (Gang × Int)} (h : ∀ R ∈ Rs, Fit R) : SeqAt.shaped (.list (Rs.map rowD)) = true := by
  unfold SeqAt.shaped
  have h1 : PyData.canLay0 (.list (Rs.map rowD)) = true := lay_rows h
  have h2 : (PyData.list (Rs.map rowD)).depth ≤ 64 := by
    have := dpt_rows Rs
    simp only [PyData.depth]
    omega
  rw [h1, decide_eq_true h2]
  rfl
theorem eqv_name {R S : Gang × Int} (h : PyData.eqv (rowD R) (rowD S) = true) : R.1.name = S.1.name := by
  simp only [rowD, gangD, PyData.eqv, PyData.eqvAll, Bool.and_eq_true] at h
  exact eq_of_beq h.1.1
theorem eqv_row {R : Gang × Int} (f : Fit R) : PyData.eqv (rowD R) (rowD R) = true := SeqAt.eqv_refl_plain _ (shaped_plain (sh_row f))
theorem eqv_nil (ds : List PyData) : PyData.eqv (.list ds) (.list []) = ds.isEmpty := by
  cases ds <;> rfl
theorem eqv_list {ds : List PyData} (h : SeqAt.shaped (.list ds) = true) : PyData.eqv (.list ds) (.list ds) = true := SeqAt.eqv_refl_plain _ (shaped_plain h)
theorem place_row {Rs : List (Gang × Int)} (h : Good2 Rs) {j : Nat} {R : Gang × Int} (hj : Rs[j]? = some R) : SeqAt.dataPlace (Rs.map rowD) (rowD R) = some j := by
  obtain ⟨lt, e⟩ := List.getElem?_eq_some_iff.mp hj
  unfold SeqAt.dataPlace
  rw [List.findIdx?_eq_some_iff_getElem]
  refine ⟨by rw [List.length_map]; exact lt, ?_, fun m hm => ?_⟩
  · rw [List.getElem_map, e]
    exact eqv_row (h.fit R (List.mem_of_getElem? hj))
  · rw [List.getElem_map]
    intro z
    have hn := eqv_name z
    have nd := List.pairwise_iff_getElem.mp h.names m j (by rw [List.length_map]; omega) (by rw [List.length_map]; exact lt) hm
    rw [List.getElem_map, List.getElem_map, e] at nd
    exact nd hn
/-! rows of the state -/
theorem hows_ok : ∀ z ∈ hows, PySem.PyData.strOk z = true := by decide +kernel
theorem fit_of {gs : List Str} {wr : Nat} {G : Gang} {n : Int} (ok : GangOk gs wr G) (g : GsOk gs) (w8 : wr ≤ 8) (hn : PySem.PyData.strOk G.name = true) : Fit (G, n) :=
  ⟨hn, g.str _ ok.guild, hows_ok _ ok.how, by show G.want.length ≤ 8; rw [ok.wlen]; exact w8, ok.amt, by have := ok.m1; show 0 ≤ G.many; omega, ok.m60⟩
theorem good_state {gs : List Str} {wr : Nat} {Rs : List (Gang × Int)} (g : GsOk gs) (w8 : wr ≤ 8) (h : RowsOk gs wr Rs) : Good2 Rs := by
  obtain ⟨hl, h⟩ := h
  have at_ : ∀ {i : Nat} (hi : i < Rs.length), RowOk gs wr i Rs[i] := fun {i} hi => h i _ (List.getElem?_eq_getElem hi)
  refine ⟨fun R hR => ?_, ?_, ?_, by omega⟩
  · obtain ⟨i, hi, rfl⟩ := List.mem_iff_getElem.mp hR
    have q := at_ hi
    exact fit_of (G := Rs[i].1) (n := Rs[i].2) q.ok g w8 (by rw [q.name]; exact (names_ok1.2 _ (rowName_mem (by omega))).1)
  · rw [List.Nodup, List.pairwise_iff_getElem]
    intro i j hi hj hij z
    rw [List.length_map] at hi hj
    rw [List.getElem_map, List.getElem_map, (at_ hi).name, (at_ hj).name] at z
    have := rowName_inj (by omega) (by omega) z
    omega
  · rw [List.Nodup, List.pairwise_iff_getElem]
    intro i j hi hj hij z
    rw [List.length_map] at hi hj
    rw [List.getElem_map, List.getElem_map] at z
    have a := (at_ hi).nm
    have b := (at_ hj).nm
    rw [z, b] at a
    omega
end My

namespace My
open PySem PySem.W PySem.Spec PyProof.Rows L2 GX GxR
/-! two lists, as a list of pairs -/
theorem paired_zip {α β : Type} {R : α → β → Prop} : ∀ {xs : List α} {ys : List β}, Paired R xs ys → ∃ ps : List (α × β), ps.map (·.1) = xs ∧ ps.map (·.2) = ys ∧ ∀ p ∈ ps, R p.1 p.2
  | _, _, .nil => ⟨[], rfl, rfl, fun _ h => nomatch h⟩
  | x :: xs, y :: ys, .cons r t => by
    obtain ⟨ps, h1, h2, h3⟩ := paired_zip t
    refine ⟨(x, y) :: ps, by rw [List.map_cons, h1], by rw [List.map_cons, h2], fun p hp => ?_⟩
    rcases List.mem_cons.mp hp with z | z
    · rw [z]
      exact r
    · exact h3 p z
theorem paired_of {α β : Type} {R : α → β → Prop} : ∀ {ps : List (α × β)}, (∀ p ∈ ps, R p.1 p.2) → Paired R (ps.map (·.1)) (ps.map (·.2))
  | [], _ => .nil
  | p :: ps, h => .cons (h p List.mem_cons_self) (paired_of fun q hq => h q (List.mem_cons_of_mem _ hq))
theorem perm_erase {α : Type} : ∀ (xs : List α) (j : Nat) (x : α), xs[j]? = some x → (x :: xs.eraseIdx j).Perm xs
  | [], j, x, h => by simp at h
  | y :: ys, 0, x, h => by
    cases h
    exact List.Perm.refl _
  | y :: ys, j + 1, x, h => by
    have ih := perm_erase ys j x (by simpa using h)
    exact (List.Perm.swap y x _).trans (List.Perm.cons y ih)
theorem erase_map2 {α β : Type} (f : α → β) : ∀ (xs : List α) (j : Nat), (xs.map f).eraseIdx j = (xs.eraseIdx j).map f
  | [], j => by simp
  | x :: xs, 0 => by simp
  | x :: xs, j + 1 => by simp [erase_map2 f xs j]
/-! keys of rows -/
def kyOf (H : Hp) : V → Int × Int
  | .ref a => match H a with
    | some (.tup [.ref g, .int n]) => match H g with
      | some (.tup [_, _, .int r, _, _, _, _]) => (-r, n)
      | _ => (0, 0)
    | _ => (0, 0)
  | _ => (0, 0)
theorem kyOf_row {H : Hp} {a : Addr} {R : Gang × Int} (h : RowAt H a R) : kyOf H (.ref a) = (-R.1.rank, R.2) := by
  obtain ⟨g, h1, w, h2, _⟩ := h
  simp only [kyOf, h1, h2, Gang.flat]
theorem sort_rows {H : Hp} {ps : List (Addr × (Gang × Int))} (h : ∀ p ∈ ps, RowAt H p.1 p.2) :
    ∃ qs : List (Addr × (Gang × Int)), qs.Perm ps ∧ ((ps.map (·.1)).map V.ref).mergeSort (keyLe (kyOf H)) = (qs.map (·.1)).map V.ref ∧ qs.map (·.2) = ord (ps.map (·.2)) := by
  refine ⟨ps.mergeSort fun p q => rowLe p.2 q.2, List.mergeSort_perm _ _, ?_, ?_⟩
  · rw [List.map_map, List.map_map]
    refine (List.map_mergeSort fun a ha b hb => ?_).symm
    show rowLe a.2 b.2 = keyLe (kyOf H) (V.ref a.1) (V.ref b.1)
    unfold keyLe
    rw [kyOf_row (h a ha), kyOf_row (h b hb)]
    rfl
  · exact List.map_mergeSort fun a _ b _ => rfl
def spRank : Sp := fun vs H Q _ => ∃ (g : Addr) (G : Gang), vs = [.ref g] ∧ GangAt H g G ∧ Q (.int G.rank) H
def spPlace : Sp := fun vs H Q _ => ∃ (r : Addr) (R : Gang × Int), vs = [.ref r] ∧ RowAt H r R ∧ ∀ t H', Same H H' → H' t = some (.tup [.int (-R.1.rank), .int R.2]) → Q (.ref t) H'
def spInOrd (K : PySem.W.Frag) : Sp := fun vs H Q _ => ∃ (a : Addr) (as : List Addr) (Rs : List (Gang × Int)), vs = [.ref a] ∧ SqL K H a (as.map V.ref) ∧ Paired (RowAt H) as Rs ∧ Rs.length ≤ 1000 ∧
  ∀ p H' bs, Same H H' → H p = none → H' p = some (.lst (bs.map V.ref)) → Paired (GangAt H') bs ((ord Rs).map (·.1)) → Q (.ref p) H'
def spOrder (K : PySem.W.Frag) : Sp := fun vs H Q _ => ∃ (a : Addr) (as : List Addr) (Rs : List (Gang × Int)), vs = [.ref a] ∧ SqL K H a (as.map V.ref) ∧ Paired (RowAt H) as Rs ∧ Good2 Rs ∧
  ∀ p H' bs, Same H H' → H p = none → H' p = some (.lst (bs.map V.ref)) → Paired (RowAt H') bs (ord Rs) → Q (.ref p) H'
theorem RowAt.same {H H' : Hp} {r : Addr} {R : Gang × Int} (s : Same H H') (h : RowAt H r R) : RowAt H' r R := h.kt (Same.kt s)
theorem GangAt.same {H H' : Hp} {r : Addr} {R : Gang} (s : Same H H') (h : GangAt H r R) : GangAt H' r R := h.kt (Same.kt s)
theorem key_rows {H : Hp} {as : List Addr} {Rs : List (Gang × Int)} (h : Paired (RowAt H) as Rs) : KeyFn spPlace (kyOf H) (as.map V.ref) H := by
  intro x hx H1 s1 Q q
  obtain ⟨a, ha, rfl⟩ := List.mem_map.mp hx
  obtain ⟨i, hi⟩ := List.mem_iff_getElem?.mp ha
  obtain ⟨R, _, hR⟩ := paired_get h hi
  refine ⟨a, R, rfl, hR.same s1, fun t H' s2 e => q t H' s2 ?_⟩
  rw [kyOf_row hR]
  exact e
/-- better than the best so far -/
def better (R B : Gang × Int) : Prop := R.1.rank > B.1.rank ∨ (R.1.rank = B.1.rank ∧ R.2 < B.2)
theorem not_better {R B : Gang × Int} (h : ¬ better R B) : rowLe B R = true := by
  unfold better at h
  unfold rowLe
  rw [decide_eq_true_eq]
  omega
theorem better_le {R B : Gang × Int} (h : better R B) : rowLe R B = true := by
  unfold better at h
  unfold rowLe
  rw [decide_eq_true_eq]
  omega
def lenAt (H : Hp) (l : Addr) : Nat := match H l with
  | some (.lst xs) => xs.length
  | _ => 0
theorem lenAt_of {H : Hp} {l : Addr} {xs : List V} (h : H l = some (.lst xs)) : lenAt H l = xs.length := by
  unfold lenAt
  rw [h]
theorem _root_.L2.Room.units65 {k : Nat} {A : Around} (r : Room k A) : A.units + 65 < cLine := by
  have := r.un
  omega
end My

namespace My
open PySem PySem.W PySem.Spec PyProof.Rows L2 GX GxR
theorem ints_inj : ∀ {xs ys : List Int}, xs.map V.int = ys.map V.int → xs = ys
  | [], [], _ => rfl
  | [], _ :: _, h => by cases h
  | _ :: _, [], h => by cases h
  | x :: xs, y :: ys, h => by
    rw [List.map_cons, List.map_cons] at h
    injection h with h1 h2
    injection h1 with h1
    rw [h1, ints_inj h2]
theorem gang_uniq {H : Hp} {g : Addr} {G G' : Gang} (h : GangAt H g G) (h' : GangAt H g G') : G = G' := by
  obtain ⟨w, h1, h2⟩ := h
  obtain ⟨w', h1', h2'⟩ := h'
  rw [h1] at h1'
  simp only [Gang.flat, Option.some.injEq, HO.tup.injEq, List.cons.injEq, V.str.injEq, V.int.injEq, V.ref.injEq, and_true] at h1'
  obtain ⟨e1, e2, e3, e4, e5, e6, e7⟩ := h1'
  rw [← e5, h2] at h2'
  simp only [Option.some.injEq, HO.tup.injEq] at h2'
  have e8 := ints_inj h2'
  cases G
  cases G'
  simp only at e1 e2 e3 e4 e6 e7 e8
  subst e1 e2 e3 e4 e6 e7 e8
  rfl
theorem row_uniq {H : Hp} {a : Addr} {R R' : Gang × Int} (h : RowAt H a R) (h' : RowAt H a R') : R = R' := by
  obtain ⟨g, h1, h2⟩ := h
  obtain ⟨g', h1', h2'⟩ := h'
  rw [h1] at h1'
  simp only [Option.some.injEq, HO.tup.injEq, List.cons.injEq, V.int.injEq, V.ref.injEq, and_true] at h1'
  obtain ⟨e1, e2⟩ := h1'
  rw [← e1] at h2'
  exact Prod.ext (gang_uniq h2 h2') e2
open Classical in
noncomputable def encOf (H : Hp) (x : V) : PyData := if h : ∃ R : Gang × Int, ∃ a, x = V.ref a ∧ RowAt H a R then rowD h.choose else .none
theorem encOf_row {H : Hp} {a : Addr} {R : Gang × Int} (h : RowAt H a R) : encOf H (.ref a) = rowD R := by
  have ex : ∃ R : Gang × Int, ∃ b, V.ref a = V.ref b ∧ RowAt H b R := ⟨R, a, rfl, h⟩
  unfold encOf
  rw [dif_pos ex]
  obtain ⟨b, e, hb⟩ := ex.choose_spec
  injection e with e
  rw [← e] at hb
  rw [row_uniq hb h]
theorem alike_ints2 : ∀ xs ys : List Int, alikeAll (xs.map PyData.int) (ys.map PyData.int) = true := alike_ints
theorem alike_rows (R S : Gang × Int) : alike (rowD R) (rowD S) = true := by
  simp [rowD, gangD, alike, alikeAll, alike_ints2]
theorem perm_rows {H : Hp} {ps : List (Addr × (Gang × Int))} (le : V → V → Bool) : ∃ qs : List (Addr × (Gang × Int)), qs.Perm ps ∧ ((ps.map (·.1)).map V.ref).mergeSort le = (qs.map (·.1)).map V.ref := by
  refine ⟨ps.mergeSort fun p q => le (V.ref p.1) (V.ref q.1), List.mergeSort_perm _ _, ?_⟩
  rw [List.map_map, List.map_map]
  exact (List.map_mergeSort (f := V.ref ∘ fun x : Addr × (Gang × Int) => x.1) (r := fun p q => le (V.ref p.1) (V.ref q.1)) (s := le) fun a ha b hb => rfl).symm
theorem prs_gangs {H : Hp} {n : Nat} : ∀ {bs ds : List Addr} {Gs : List Gang}, Paired (GangAt H) bs Gs → Paired (GangAt H) ds Gs → (∀ G ∈ Gs, G.want.length < 100000) → Prs (Sm H (n + 2)) (bs.map V.ref) (ds.map V.ref)
  | _, _, _, .nil, .nil, _ => .nil
  | _, _, _, .cons h t, .cons h' t', hl => .cons (sm_gang h h' (hl _ List.mem_cons_self)) (prs_gangs t t' fun G hG => hl G (List.mem_cons_of_mem _ hG))
/-- a list of the same rows, in some order -/
def Like (H : Hp) (Rs : List (Gang × Int)) (b : Addr) : Prop := ∃ (as : List Addr) (Ss : List (Gang × Int)), H b = some (.lst (as.map V.ref)) ∧ Paired (RowAt H) as Ss ∧ Ss.Perm Rs
theorem Like.same {H H' : Hp} {Rs : List (Gang × Int)} {b : Addr} (s : Same H H') (h : Like H Rs b) : Like H' Rs b := by
  obtain ⟨as, Ss, h1, h2, h3⟩ := h
  exact ⟨as, Ss, s _ _ h1, h2.mono fun _ _ x => x.same s, h3⟩
theorem paired_rev {α β : Type} {R : α → β → Prop} : ∀ {xs : List α} {ys : List β}, Paired R xs ys → Paired R xs.reverse ys.reverse
  | _, _, .nil => .nil
  | x :: xs, y :: ys, .cons r t => by
    rw [List.reverse_cons, List.reverse_cons]
    exact Paired.snoc (paired_rev t) r
end My

namespace My
open PySem PySem.W PySem.Spec PyProof.Rows L2 GX GxR
/-! tables of generator expressions -/
def Tabs (Ts : List Addr) (H : Hp) : Prop := ∀ T ∈ Ts, TabG H T
structure Fw (Ts : List Addr) (H H' : Hp) : Prop where
  kp : Kp Ts H H'
  tabs : Tabs Ts H'
section
variable {Ts : List Addr} {H H1 H2 : Hp}
theorem Fw.refl (t : Tabs Ts H) : Fw Ts H H := ⟨Kp.refl _ _, t⟩
theorem Fw.trans (f : Fw Ts H H1) (g : Fw Ts H1 H2) : Fw Ts H H2 := ⟨f.kp.trans g.kp, g.tabs⟩
theorem Fw.same (t : Tabs Ts H) (s : Same H H1) : Fw Ts H H1 := ⟨Same.kp _ s, fun T h => TabG.same s (t T h)⟩
theorem Fw.then (f : Fw Ts H H1) (s : Same H1 H2) : Fw Ts H H2 := f.trans (Fw.same f.tabs s)
theorem Fw.step (t : Tabs Ts H) {T : Addr} (h : T ∈ Ts) (k : Kp [T] H H1) (g : TabG H1 T) : Fw Ts H H1 := by
  refine ⟨k.mono fun x hx => by rw [List.mem_singleton.mp hx]; exact h, fun T' h' => ?_⟩
  by_cases z : T' = T
  · rw [z]
    exact g
  · exact TabG.kp k (fun q => z (List.mem_singleton.mp q)) (t T' h')
theorem tab_off {x : Addr} {o : HO} (t : Tabs Ts H) (h : H x = some o) (no : ∀ ps, o ≠ .tbl ps) : x ∉ Ts := fun z => tab_ne (t x z) h no rfl
theorem Fw.obj (t : Tabs Ts H) (f : Fw Ts H H1) {x : Addr} {o : HO} (h : H x = some o) (no : ∀ ps, o ≠ .tbl ps) : H1 x = some o := f.kp _ _ (tab_off t h no) h
theorem Fw.lst (t : Tabs Ts H) (f : Fw Ts H H1) {x : Addr} {xs : List V} (h : H x = some (.lst xs)) : H1 x = some (.lst xs) := f.obj t h fun ps z => by cases z
theorem Fw.kt (t : Tabs Ts H) (f : Fw Ts H H1) : KTu H H1 := fun x xs h => f.obj t h fun ps z => by cases z
theorem Fw.free (t : Tabs Ts H) (f : Fw Ts H H1) {x : Addr} (h : H1 x = none) : H x = none := by
  cases e : H x with
  | none => rfl
  | some o =>
    by_cases z : x ∈ Ts
    · obtain ⟨ps, h1, _⟩ := f.tabs x z
      rw [h1] at h
      cases h
    · rw [f.kp _ _ z e] at h
      cases h
theorem Fw.put (t : Tabs Ts H) (f : Fw Ts H H1) {x : Addr} {o : HO} (n : H x = none) : Fw Ts H (upd H1 x o) := by
  have nT : x ∉ Ts := fun z => by
    obtain ⟨ps, h1, _⟩ := t x z
    rw [h1] at n
    cases n
  refine ⟨fun y u ny e => ?_, fun T hT => ?_⟩
  · rw [upd_ne (ne_of_none e n)]
    exact f.kp _ _ ny e
  · obtain ⟨ps, h1, h2⟩ := f.tabs T hT
    exact ⟨ps, by rw [upd_ne (fun z => nT (by rw [← z]; exact hT))]; exact h1, h2⟩
theorem Fw.seqL {K : PySem.W.Frag} (t : Tabs Ts H) (f : Fw Ts H H1) {a : Addr} {xs : List V} (h : SqL K H a xs) : SqL K H1 a xs := by
  rcases h with (h | ⟨o, h⟩) | h
  · exact .inl (.inl (f.lst t h))
  · exact .inl (.inr ⟨o, f.obj t h fun ps z => by cases z⟩)
  · exact .inr h
theorem Fw.seqT {K : PySem.W.Frag} (t : Tabs Ts H) (f : Fw Ts H H1) {a : Addr} {xs : List V} (h : SqT K H a xs) : SqT K H1 a xs := by
  rcases h with (h | ⟨o, h⟩) | h
  · exact .inl (.inl (f.kt t _ _ h))
  · exact .inl (.inr ⟨o, f.obj t h fun ps z => by cases z⟩)
  · exact .inr h
end
/-! a guild's own ones and the lent -/
def fitB (xs ys : List Int) : Bool := (List.zipWith (fun a b : Int => decide (a ≤ b)) xs ys).all _root_.id
theorem zip_bl {g : V → V → V} {op : Int → Int → Bool} (h : ∀ i j, g (.int i) (.int j) = .bl (op i j)) : ∀ xs ys : List Int, (((xs.map V.int).zip (ys.map V.int)).map fun v => g v.1 v.2) = (List.zipWith op xs ys).map V.bl
  | [], _ => rfl
  | _ :: _, [] => rfl
  | x :: xs, y :: ys => by
    show g (.int x) (.int y) :: (((xs.map V.int).zip (ys.map V.int)).map fun v => g v.1 v.2) = .bl (op x y) :: (List.zipWith op xs ys).map V.bl
    rw [h, zip_bl h xs ys]
def spFits (K : PySem.W.Frag) (T : Addr) : Sp := fun vs H Q _ => ∃ (a b : Addr) (xs ys : List Int), vs = [.ref a, .ref b] ∧ SqT K H a (xs.map V.int) ∧ SqT K H b (ys.map V.int) ∧ TabG H T ∧ ∀ H', TabG H' T → Kp [T] H H' → Q (.bl (fitB xs ys)) H'
def addL (xs ys : List Int) : List Int := List.zipWith (· + ·) xs ys
def zeros (n : Nat) : List Int := List.replicate n 0
/-- in turn: own where it fits with those ahead, else lent; and what the own ones come to -/
def partA (dn : List Int) : List Gang → List Gang → List Gang → List Int → List Gang × List Gang × List Int
  | [], o, l, ld => (o, l, ld)
  | G :: Gs, o, l, ld => if fitB (addL ld G.whole) dn = true then partA dn Gs (o ++ [G]) l (addL ld G.whole) else partA dn Gs o (l ++ [G]) ld
def partRs (dn : List Int) (Rs : List (Gang × Int)) : List Gang × List Gang × List Int := partA dn ((ord Rs).map (·.1)) [] [] (zeros dn.length)
theorem partA_step {dn : List Int} {Gs : List Gang} {i : Nat} {G : Gang} {o l : List Gang} {ld : List Int} (h : Gs[i]? = some G) :
    partA dn (Gs.drop i) o l ld = if fitB (addL ld G.whole) dn = true then partA dn (Gs.drop (i + 1)) (o ++ [G]) l (addL ld G.whole) else partA dn (Gs.drop (i + 1)) o (l ++ [G]) ld := by
  obtain ⟨lt, e⟩ := List.getElem?_eq_some_iff.mp h
  rw [List.drop_eq_getElem_cons lt, e]
  rfl
def spGName : Sp := fun vs H Q _ => ∃ (g : Addr) (G : Gang), vs = [.ref g] ∧ GangAt H g G ∧ Q (.str G.name) H
structure PIn (K : PySem.W.Frag) (H : Hp) (du a : Addr) (dn : List Int) (as : List Addr) (Rs : List (Gang × Int)) : Prop where
  due : SqT K H du (dn.map V.int)
  d1 : 1 ≤ dn.length
  d8 : dn.length ≤ 8
  rows : SqL K H a (as.map V.ref)
  prs : Paired (RowAt H) as Rs
  good : Good2 Rs
  wlen : ∀ R ∈ Rs, R.1.want.length = dn.length
def spPartG (K : PySem.W.Frag) (Ts : List Addr) : Sp := fun vs H Q _ => ∃ (du a : Addr) (dn : List Int) (as : List Addr) (Rs : List (Gang × Int)), vs = [.ref du, .ref a] ∧ PIn K H du a dn as Rs ∧ Tabs Ts H ∧
  ∀ t o l e H' os ls, Fw Ts H H' → H t = none → H' t = some (.tup [.ref o, .ref l, .ref e]) → H' o = some (.lst (os.map V.ref)) → H' l = some (.lst (ls.map V.ref)) → Paired (GangAt H') os (partRs dn Rs).1 → Paired (GangAt H') ls (partRs dn Rs).2.1 → H' e = some (.tup ((partRs dn Rs).2.2.map V.int)) → Q (.ref t) H'
def spParted (K : PySem.W.Frag) (Ts : List Addr) : Sp := fun vs H Q _ => ∃ (du a : Addr) (dn : List Int) (as : List Addr) (Rs : List (Gang × Int)), vs = [.ref du, .ref a] ∧ PIn K H du a dn as Rs ∧ Tabs Ts H ∧
  ∀ t o l H', Fw Ts H H' → H t = none → H' t = some (.tup [.ref o, .ref l]) → H o = none → H l = none → o ≠ l → H' o = some (.lst (((partRs dn Rs).1.map (·.name)).map V.str)) → H' l = some (.lst (((partRs dn Rs).2.1.map (·.name)).map V.str)) → Q (.ref t) H'
def spLPart (K : PySem.W.Frag) : Sp := fun vs H Q _ => ∃ (du a : Addr) (dn : List Int) (as : List Addr) (Rs : List (Gang × Int)), vs = [.ref du, .ref a] ∧ PIn K H du a dn as Rs ∧
  ∀ t o l b H', Same H H' → H t = none → H' t = some (.tup [.ref o, .ref l, .ref b]) → H o = none → H l = none → H b = none → H' o = some (.lst (((partRs dn Rs).1.map (·.name)).map V.str)) → H' l = some (.lst (((partRs dn Rs).2.1.map (·.name)).map V.str)) → H' b = some (.lst ((partRs dn Rs).2.2.map V.int)) → Q (.ref t) H'
def spLGuild (K : PySem.W.Frag) : Sp := fun vs H Q _ => ∃ (a : Addr) (as : List Addr) (Rs : List (Gang × Int)) (z : Str), vs = [.ref a, .str z] ∧ SqL K H a (as.map V.ref) ∧ Paired (RowAt H) as Rs ∧ Rs.length ≤ 100 ∧
  ∀ p bs H', Same H H' → H p = none → H' p = some (.lst (bs.map V.ref)) → Paired (RowAt H') bs (Rs.filter fun R => decide (R.1.guild = z)) → Q (.ref p) H'
theorem PIn.same {K : PySem.W.Frag} {H H' : Hp} {du a : Addr} {dn : List Int} {as : List Addr} {Rs : List (Gang × Int)} (s : Same H H') (h : PIn K H du a dn as Rs) : PIn K H' du a dn as Rs :=
  ⟨same_seqT s h.due, h.d1, h.d8, s.seq h.rows, h.prs.mono fun _ _ x => x.same s, h.good, h.wlen⟩
theorem PIn.fw {K : PySem.W.Frag} {Ts : List Addr} {H H' : Hp} {du a : Addr} {dn : List Int} {as : List Addr} {Rs : List (Gang × Int)} (t : Tabs Ts H) (f : Fw Ts H H') (h : PIn K H du a dn as Rs) : PIn K H' du a dn as Rs :=
  ⟨f.seqT t h.due, h.d1, h.d8, f.seqL t h.rows, h.prs.mono fun _ _ x => x.kt (f.kt t), h.good, h.wlen⟩
theorem addL_len {xs ys : List Int} (h : ys.length = xs.length) : (addL xs ys).length = xs.length := by
  unfold addL
  rw [List.length_zipWith, h, Nat.min_self]
theorem whole_len (G : Gang) : G.whole.length = G.want.length := by
  unfold Gang.whole
  rw [List.length_map]
theorem partA_len {dn : List Int} : ∀ (Gs o l : List Gang) (ld : List Int), (partA dn Gs o l ld).1.length + (partA dn Gs o l ld).2.1.length = Gs.length + o.length + l.length
  | [], o, l, ld => by
    show o.length + l.length = 0 + o.length + l.length
    omega
  | G :: Gs, o, l, ld => by
    unfold partA
    split
    · rw [partA_len Gs]
      simp only [List.length_append, List.length_cons, List.length_nil]
      omega
    · rw [partA_len Gs]
      simp only [List.length_append, List.length_cons, List.length_nil]
      omega
theorem partRs_len (dn : List Int) (Rs : List (Gang × Int)) : (partRs dn Rs).1.length + (partRs dn Rs).2.1.length = Rs.length := by
  unfold partRs
  rw [partA_len, List.length_map, (ord_perm Rs).length_eq]
  rfl
theorem partRs_perm (dn : List Int) {Rs Ss : List (Gang × Int)} (h : (Rs.map (·.2)).Nodup) (p : Ss.Perm Rs) : partRs dn Ss = partRs dn Rs := by
  unfold partRs
  rw [ord_perm_eq h p]
end My

namespace My
open PySem PySem.W PySem.Spec PyProof.Rows L2 GX GxR
theorem partA_mem {dn : List Int} : ∀ (Gs o l : List Gang) (ld : List Int) (G : Gang), (G ∈ (partA dn Gs o l ld).1 ∨ G ∈ (partA dn Gs o l ld).2.1) → G ∈ Gs ∨ G ∈ o ∨ G ∈ l
  | [], o, l, ld, G, h => by
    rcases h with h | h
    · exact .inr (.inl h)
    · exact .inr (.inr h)
  | F :: Gs, o, l, ld, G, h => by
    unfold partA at h
    split at h
    · rcases partA_mem Gs _ _ _ G h with h | h | h
      · exact .inl (List.mem_cons_of_mem _ h)
      · rcases List.mem_append.mp h with h | h
        · exact .inr (.inl h)
        · exact .inl (by rw [List.mem_singleton.mp h]; exact List.mem_cons_self)
      · exact .inr (.inr h)
    · rcases partA_mem Gs _ _ _ G h with h | h | h
      · exact .inl (List.mem_cons_of_mem _ h)
      · exact .inr (.inl h)
      · rcases List.mem_append.mp h with h | h
        · exact .inr (.inr h)
        · exact .inl (by rw [List.mem_singleton.mp h]; exact List.mem_cons_self)
theorem partRs_mem {dn : List Int} {Rs : List (Gang × Int)} {G : Gang} (h : G ∈ (partRs dn Rs).1 ∨ G ∈ (partRs dn Rs).2.1) : ∃ R ∈ Rs, R.1 = G := by
  rcases partA_mem _ _ _ _ G h with h | h | h
  · obtain ⟨R, h1, h2⟩ := List.mem_map.mp h
    exact ⟨R, (ord_perm Rs).mem_iff.mp h1, h2⟩
  · exact (nomatch h)
  · exact (nomatch h)
theorem dp_strs {K : PySem.W.Frag} {H : Hp} : ∀ zs : List Str, DpAll K H (zs.map V.str) (zs.map PyData.str)
  | [] => .nil
  | z :: zs => .cons (.str z) (dp_strs zs)
theorem lay_strs : ∀ {zs : List Str}, (∀ z ∈ zs, PySem.PyData.strOk z = true) → PyData.canLayAll0 (zs.map PyData.str) = true
  | [], _ => rfl
  | z :: zs, h => by
    show (PyData.canLay0 (.str z) && PyData.canLayAll0 (zs.map PyData.str)) = true
    rw [lay_strs fun y hy => h y (List.mem_cons_of_mem _ hy), Bool.and_true]
    exact h z List.mem_cons_self
theorem dpt_strs : ∀ zs : List Str, PyData.depthAll (zs.map PyData.str) = 0
  | [] => rfl
  | z :: zs => by
    show PyData.depthAll (PyData.str z :: zs.map PyData.str) = 0
    simp only [PyData.depthAll, PyData.depth, dpt_strs zs]
    rfl
theorem sh_strs {zs : List Str} (h : ∀ z ∈ zs, PySem.PyData.strOk z = true) : SeqAt.shaped (.list (zs.map PyData.str)) = true := by
  unfold SeqAt.shaped
  have h1 : PyData.canLay0 (.list (zs.map PyData.str)) = true := lay_strs h
  have h2 : (PyData.list (zs.map PyData.str)).depth ≤ 64 := by
    simp only [PyData.depth, dpt_strs]
    decide
  rw [h1, decide_eq_true h2]
  rfl
theorem names_ok {dn : List Int} {Rs : List (Gang × Int)} (g : Good2 Rs) : (∀ z ∈ (partRs dn Rs).1.map (·.name), PySem.PyData.strOk z = true) ∧ (∀ z ∈ (partRs dn Rs).2.1.map (·.name), PySem.PyData.strOk z = true) := by
  refine ⟨fun z hz => ?_, fun z hz => ?_⟩
  · obtain ⟨G, hG, rfl⟩ := List.mem_map.mp hz
    obtain ⟨R, hR, rfl⟩ := partRs_mem (.inl hG)
    exact (g.fit R hR).name
  · obtain ⟨G, hG, rfl⟩ := List.mem_map.mp hz
    obtain ⟨R, hR, rfl⟩ := partRs_mem (.inr hG)
    exact (g.fit R hR).name
theorem sm_strs {H : Hp} {n : Nat} {p q : Addr} {zs : List Str} (h1 : H p = some (.lst (zs.map V.str))) (h2 : H q = some (.lst (zs.map V.str))) (hs : zs.length < 100000) : Sm H (n + 1) (.ref p) (.ref q) :=
  sm_lst h1 h2 (by rw [List.length_map]; exact hs) (prs_strs (fun z => sm_str z) zs)
theorem valV_get {κ : Type} [DecidableEq κ] : ∀ {ps : List (κ × V)} {i : Nat} {k : κ} {v : V}, (ps.map (·.1)).Nodup → ps[i]? = some (k, v) → valV ps k = some v
  | [], _, _, _, _, h => by simp at h
  | p :: ps, 0, k, v, _, h => by
    cases h
    exact valV_pos rfl
  | p :: ps, i + 1, k, v, nd, h => by
    have h' : ps[i]? = some (k, v) := by simpa using h
    rw [List.map_cons, List.nodup_cons] at nd
    rw [valV_neg fun z => nd.1 (List.mem_map.mpr ⟨(k, v), List.mem_of_getElem? h', z.symm⟩)]
    exact valV_get nd.2 h'
theorem valV_due {H : Hp} {ps : List (Key × V)} {kvs : List (Str × List Int)} (h : Paired (DueAt H) ps kvs) (nd : (kvs.map (·.1)).Nodup) {z : Str} (hz : z ∈ kvs.map (·.1)) : ∃ (a : Addr) (ns : List Int), valV ps (Sum.inr z) = some (.ref a) ∧ (z, ns) ∈ kvs ∧ H a = some (.tup (ns.map V.int)) := by
  obtain ⟨kv, hkv, rfl⟩ := List.mem_map.mp hz
  obtain ⟨i, hi⟩ := List.mem_iff_getElem?.mp hkv
  obtain ⟨p, hp, e, a, h1, h2⟩ := paired_get2 h hi
  have np : (ps.map (·.1)).Nodup := by
    rw [due_keys h]
    exact keys_nd nd
  have hp' : ps[i]? = some (Sum.inr kv.1, .ref a) := by
    rw [hp, ← e, ← h1]
  exact ⟨a, kv.2, valV_get np hp', hkv, h2⟩
theorem dgetR {H : Hp} {d : Addr} {ps : List (Key × V)} {z : Str} {v : V} (h : Rd H d (.dK ps)) (e : valV ps (Sum.inr z) = some v) : DGet H d (.str z) (some v) := .inl ⟨ps, Sum.inr z, h, rfl, e.symm⟩
end My

namespace My
open PySem PySem.W PySem.Spec PyProof.Rows L2 GX GxR
/-! what is borne from a time to a time, and the turns of it -/
structure Bw where
  key : Str
  b : Int
  e : Int
  am : List Int
structure Tn where
  t : Int
  k : Int
  am : List Int
def BwAt (H : Hp) (r : Addr) (x : Bw) : Prop := ∃ p, H r = some (.tup [.str x.key, .int x.b, .int x.e, .ref p]) ∧ H p = some (.tup (x.am.map V.int))
def TnAt (H : Hp) (r : Addr) (x : Tn) : Prop := ∃ p, H r = some (.tup [.int x.t, .int x.k, .ref p]) ∧ H p = some (.tup (x.am.map V.int))
theorem BwAt.kt {H H' : Hp} {r : Addr} {x : Bw} (k : KTu H H') (h : BwAt H r x) : BwAt H' r x := by
  obtain ⟨p, h1, h2⟩ := h
  exact ⟨p, k _ _ h1, k _ _ h2⟩
theorem TnAt.kt {H H' : Hp} {r : Addr} {x : Tn} (k : KTu H H') (h : TnAt H r x) : TnAt H' r x := by
  obtain ⟨p, h1, h2⟩ := h
  exact ⟨p, k _ _ h1, k _ _ h2⟩
def begT (x : Bw) : Tn := ⟨x.b, 1, x.am⟩
def endT (x : Bw) : Tn := ⟨x.e, 0, x.am⟩
def turns (rs : List Bw) : List Tn := rs.map begT ++ rs.map endT
/-- rows as they may be -/
structure BwOk (w : Nat) (rs : List Bw) : Prop where
  few : rs.length ≤ 200
  lt : ∀ x ∈ rs, x.b < x.e
  len : ∀ x ∈ rs, x.am.length = w
def colT (j : Nat) (x : Tn) : Int := if x.k = 1 then x.am.getD j 0 else - x.am.getD j 0
def sumT (w : Nat) (us : List Tn) : List Int := (List.range w).map fun j => (us.map (colT j)).sum
def liveAt (t : Int) (x : Bw) : Bool := decide (x.b ≤ t ∧ t < x.e)
def netB (w : Nat) (rs : List Bw) (t : Int) : List Int := (List.range w).map fun j => ((rs.filter (liveAt t)).map fun x => x.am.getD j 0).sum
theorem sumT_len (w : Nat) (us : List Tn) : (sumT w us).length = w := by unfold sumT; rw [List.length_map, List.length_range]
theorem netB_len (w : Nat) (rs : List Bw) (t : Int) : (netB w rs t).length = w := by unfold netB; rw [List.length_map, List.length_range]
theorem perm_sum {xs ys : List Int} (h : xs.Perm ys) : xs.sum = ys.sum := by
  induction h with
  | nil => rfl
  | cons x _ ih => rw [List.sum_cons, List.sum_cons, ih]
  | swap x y l =>
    simp only [List.sum_cons]
    omega
  | trans _ _ a b => exact a.trans b
theorem sumT_nil (w : Nat) : sumT w [] = List.replicate w 0 := by
  unfold sumT
  apply List.ext_getElem
  · simp
  · intro i h1 h2
    simp
theorem sumT_add {w : Nat} {us : List Tn} {u : Tn} (h : u.k = 1) (hl : u.am.length = w) : List.zipWith (· + ·) (sumT w us) u.am = sumT w (us ++ [u]) := by
  apply List.ext_getElem
  · rw [List.length_zipWith, sumT_len, sumT_len, hl, Nat.min_self]
  · intro i h1 h2
    rw [sumT_len] at h2
    simp [sumT, colT, h, show i < u.am.length by omega]
theorem sumT_sub {w : Nat} {us : List Tn} {u : Tn} (h : u.k ≠ 1) (hl : u.am.length = w) : List.zipWith (· - ·) (sumT w us) u.am = sumT w (us ++ [u]) := by
  apply List.ext_getElem
  · rw [List.length_zipWith, sumT_len, sumT_len, hl, Nat.min_self]
  · intro i h1 h2
    rw [sumT_len] at h2
    simp [sumT, colT, h, show i < u.am.length by omega]
    omega
/-- what the turns up to t leave is what is borne at t -/
theorem col_eq (j : Nat) (t : Int) : ∀ rs : List Bw, (∀ x ∈ rs, x.b < x.e) → (((turns rs).filter fun u => decide (u.t ≤ t)).map (colT j)).sum = ((rs.filter (liveAt t)).map fun x => x.am.getD j 0).sum := by
  intro rs
  unfold turns
  rw [List.filter_append, List.map_append, List.sum_append]
  induction rs with
  | nil => intro _; rfl
  | cons x rs ih =>
    intro h
    have ih := ih fun y hy => h y (List.mem_cons_of_mem _ hy)
    have hx := h x List.mem_cons_self
    simp only [List.map_cons, List.filter_cons]
    have e1 : (begT x).t = x.b := rfl
    have e2 : (endT x).t = x.e := rfl
    have c1 : colT j (begT x) = x.am.getD j 0 := by simp [colT, begT]
    have c2 : colT j (endT x) = - x.am.getD j 0 := by simp [colT, endT]
    unfold liveAt at ih ⊢
    rw [e1, e2]
    by_cases a1 : x.b ≤ t <;> by_cases a2 : x.e ≤ t
    · have a3 : decide (x.b ≤ t ∧ t < x.e) = false := decide_eq_false (by omega)
      rw [a3, decide_eq_true a1, decide_eq_true a2, if_pos rfl, if_pos rfl, if_neg Bool.false_ne_true, List.map_cons, List.map_cons, List.sum_cons, List.sum_cons, c1, c2]
      omega
    · have a3 : decide (x.b ≤ t ∧ t < x.e) = true := decide_eq_true (by omega)
      rw [a3, decide_eq_true a1, decide_eq_false a2, if_pos rfl, if_pos rfl, if_neg Bool.false_ne_true, List.map_cons, List.map_cons, List.sum_cons, List.sum_cons, c1]
      omega
    · exact absurd a2 (by omega)
    · have a3 : decide (x.b ≤ t ∧ t < x.e) = false := decide_eq_false (by omega)
      rw [a3, decide_eq_false a1, decide_eq_false a2, if_neg Bool.false_ne_true, if_neg Bool.false_ne_true, if_neg Bool.false_ne_true]
      exact ih
theorem net_eq {w : Nat} {rs : List Bw} {us : List Tn} (h : ∀ x ∈ rs, x.b < x.e) (p : us.Perm (turns rs)) (t : Int) : sumT w (us.filter fun u => decide (u.t ≤ t)) = netB w rs t := by
  unfold sumT netB
  refine List.map_congr_left fun j _ => ?_
  rw [← col_eq j t rs h]
  exact perm_sum ((p.filter _).map _)
/-- times in order: all begins and ends, each once -/
def Srt (rs : List Bw) (ks : List Int) : Prop := ks.Pairwise (· < ·) ∧ ∀ t, t ∈ ks ↔ ∃ x ∈ rs, x.b = t ∨ x.e = t
theorem sorted_ext : ∀ {xs ys : List Int}, xs.Pairwise (· < ·) → ys.Pairwise (· < ·) → (∀ t, t ∈ xs ↔ t ∈ ys) → xs = ys
  | [], [], _, _, _ => rfl
  | [], y :: ys, _, _, h => nomatch (h y).mpr List.mem_cons_self
  | x :: xs, [], _, _, h => nomatch (h x).mp List.mem_cons_self
  | x :: xs, y :: ys, h1, h2, h => by
    rw [List.pairwise_cons] at h1 h2
    have e : x = y := by
      rcases List.mem_cons.mp ((h x).mp List.mem_cons_self) with z | z
      · exact z
      · rcases List.mem_cons.mp ((h y).mpr List.mem_cons_self) with z' | z'
        · exact z'.symm
        · have := h1.1 y z'
          have := h2.1 x z
          omega
    subst e
    rw [sorted_ext h1.2 h2.2 fun t => ?_]
    constructor
    · intro ht
      rcases List.mem_cons.mp ((h t).mp (List.mem_cons_of_mem _ ht)) with z | z
      · have := h1.1 t ht
        omega
      · exact z
    · intro ht
      rcases List.mem_cons.mp ((h t).mpr (List.mem_cons_of_mem _ ht)) with z | z
      · have := h2.1 t ht
        omega
      · exact z
theorem Srt.uniq {rs : List Bw} {ks ls : List Int} (h : Srt rs ks) (h' : Srt rs ls) : ks = ls := sorted_ext h.1 h'.1 fun t => (h.2 t).trans (h'.2 t).symm
/-- more is borne at t than there is room for -/
def ovr (w : Nat) (rs : List Bw) (room : List Int) (t : Int) : Bool := !fitB (netB w rs t) room
def oI : Option Int → V
  | some t => .int t
  | none => .non
theorem find_at {p : Int → Bool} : ∀ {ks : List Int} {i : Nat} {t : Int}, (∀ (j : Nat) (x : Int), j < i → ks[j]? = some x → p x = false) → ks[i]? = some t → p t = true → ks.find? p = some t
  | [], i, t, _, h, _ => by simp at h
  | k :: ks, 0, t, _, h, ht => by
    cases h
    rw [List.find?_cons_of_pos ht]
  | k :: ks, i + 1, t, h0, h, ht => by
    have hk : p k = false := h0 0 k (by omega) rfl
    rw [List.find?_cons_of_neg (by rw [hk]; exact Bool.false_ne_true)]
    exact find_at (fun j x hj hx => h0 (j + 1) x (by omega) hx) h ht
theorem find_no {p : Int → Bool} {ks : List Int} (h : ∀ x ∈ ks, p x = false) : ks.find? p = none := List.find?_eq_none.mpr fun x hx => by rw [h x hx]; exact Bool.false_ne_true
theorem fit_zero : ∀ {room : List Int}, (∀ n ∈ room, 0 ≤ n) → ∀ w, fitB (List.replicate w 0) room = true
  | [], _, w => by cases w <;> rfl
  | r :: room, h, 0 => rfl
  | r :: room, h, w + 1 => by
    have ih := fit_zero (room := room) (fun n hn => h n (List.mem_cons_of_mem _ hn)) w
    have h0 := h r List.mem_cons_self
    unfold fitB at ih ⊢
    rw [List.replicate_succ, List.zipWith_cons_cons, List.all_cons, ih]
    simp [h0]
/-- at the last time nothing is borne -/
theorem last_fits {w : Nat} {rs : List Bw} {room ks : List Int} {t : Int} (h : Srt rs ks) (hr : ∀ n ∈ room, 0 ≤ n) (hl : ks.getLast? = some t) : ovr w rs room t = false := by
  have e : rs.filter (liveAt t) = [] := List.filter_eq_nil_iff.mpr fun x hx => by
    have m : x.e ∈ ks := (h.2 x.e).mpr ⟨x, hx, .inr rfl⟩
    obtain ⟨ys, hy⟩ := List.getLast?_eq_some_iff.mp hl
    have le : x.e ≤ t := by
      rw [hy] at m
      rcases List.mem_append.mp m with z | z
      · have := h.1
        rw [hy] at this
        exact Int.le_of_lt ((List.pairwise_append.mp this).2.2 _ z t (List.mem_singleton.mpr rfl))
      · rw [List.mem_singleton.mp z]
        exact Int.le_refl _
    unfold liveAt
    rw [decide_eq_true_eq]
    omega
  unfold ovr netB
  rw [e]
  have z : (List.range w).map (fun j => ((([] : List Bw)).map fun x => x.am.getD j 0).sum) = List.replicate w 0 := by
    apply List.ext_getElem
    · simp
    · intro i h1 h2
      simp
  rw [z, fit_zero hr]
  rfl
theorem nodup_len {α : Type} [DecidableEq α] : ∀ {xs ys : List α}, xs.Nodup → (∀ x ∈ xs, x ∈ ys) → xs.length ≤ ys.length
  | [], _, _, _ => Nat.zero_le _
  | x :: xs, ys, nd, h => by
    rw [List.nodup_cons] at nd
    have hx := h x List.mem_cons_self
    have ih := nodup_len (ys := ys.erase x) nd.2 fun y hy => by
      have ne : y ≠ x := fun z => nd.1 (by rw [← z]; exact hy)
      exact (List.mem_erase_of_ne ne).mpr (h y (List.mem_cons_of_mem _ hy))
    rw [List.length_erase_of_mem hx] at ih
    have := List.length_pos_of_mem hx
    rw [List.length_cons]
    omega
/-! the turns in order -/
def tnD (x : Tn) : PyData := .tuple [.int x.t, .int x.k, .tuple (x.am.map PyData.int)]
theorem tn_uniq {H : Hp} {a : Addr} {x y : Tn} (h : TnAt H a x) (h' : TnAt H a y) : x = y := by
  obtain ⟨p, h1, h2⟩ := h
  obtain ⟨q, h3, h4⟩ := h'
  rw [h1] at h3
  simp only [Option.some.injEq, HO.tup.injEq, List.cons.injEq, V.int.injEq, V.ref.injEq, and_true] at h3
  obtain ⟨e1, e2, e3⟩ := h3
  rw [← e3, h2] at h4
  simp only [Option.some.injEq, HO.tup.injEq] at h4
  have e4 := ints_inj h4
  cases x
  cases y
  simp only at e1 e2 e4
  subst e1 e2 e4
  rfl
open Classical in
noncomputable def encT (H : Hp) (x : V) : PyData := if h : ∃ u : Tn, ∃ a, x = V.ref a ∧ TnAt H a u then tnD h.choose else .none
theorem encT_of {H : Hp} {a : Addr} {u : Tn} (h : TnAt H a u) : encT H (.ref a) = tnD u := by
  have ex : ∃ u : Tn, ∃ b, V.ref a = V.ref b ∧ TnAt H b u := ⟨u, a, rfl, h⟩
  unfold encT
  rw [dif_pos ex]
  obtain ⟨b, e, hb⟩ := ex.choose_spec
  injection e with e
  rw [← e] at hb
  rw [tn_uniq hb h]
theorem alike_tn (x y : Tn) : alike (tnD x) (tnD y) = true := by simp [tnD, alike, alikeAll, alike_ints2]
theorem dp_tn {K : PySem.W.Frag} {H : Hp} {r : Addr} {x : Tn} (h : TnAt H r x) : Dp K H (.ref r) (tnD x) := by
  obtain ⟨p, h1, h2⟩ := h
  exact .tup (SqT.of h1) (.cons (.int _) (.cons (.int _) (.cons (.tup (SqT.of h2) (dp_ints _)) .nil)))
theorem dpt_tn (x : Tn) : (tnD x).depth ≤ 3 := by
  simp [tnD, PyData.depth, PyData.depthAll, dpt_ints]
theorem le_tn {x y : Tn} (h : dataLt (tnD y) (tnD x) = false) : x.t ≤ y.t := by
  unfold tnD at h
  rw [dataLt_tuple, dataLt_cons (by simp [alike]), dataLt_int] at h
  by_cases e : y.t = x.t
  · omega
  · have e2 : PyData.eqv (.int y.t) (.int x.t) = false := by simp [PyData.eqv, e]
    rw [e2, if_neg Bool.false_ne_true, decide_eq_false_iff_not] at h
    omega
theorem sort_tns {H : Hp} {ps : List (Addr × Tn)} (h : ∀ p ∈ ps, TnAt H p.1 p.2) :
    ∃ qs : List (Addr × Tn), qs.Perm ps ∧ ((ps.map (·.1)).map V.ref).mergeSort (dataLe false (encT H)) = (qs.map (·.1)).map V.ref ∧ (qs.map (·.2)).Pairwise fun a b => a.t ≤ b.t := by
  have tl := sortLe_total (listOrd itemOrd) false fun q : Addr × Tn => keyToks (encT H (.ref q.1))
  have pm := List.mergeSort_perm ps (dataLe false fun q : Addr × Tn => encT H (.ref q.1))
  refine ⟨ps.mergeSort (dataLe false fun q : Addr × Tn => encT H (.ref q.1)), pm, ?_, ?_⟩
  · rw [List.map_map, List.map_map]
    exact (List.map_mergeSort (f := V.ref ∘ fun x : Addr × Tn => x.1) (s := dataLe false (encT H)) fun a ha b hb => rfl).symm
  · have so := List.pairwise_mergeSort (le := dataLe false fun q : Addr × Tn => encT H (.ref q.1)) (fun a b c => tl.trans a b c) (fun a b => by rw [Bool.or_eq_true]; exact tl.total a b) ps
    rw [List.pairwise_map]
    refine so.imp_of_mem fun {a b} ha hb hab => ?_
    have hab' : (!dataLt (encT H (.ref b.1)) (encT H (.ref a.1))) = true := hab
    rw [encT_of (h a (pm.mem_iff.mp ha)), encT_of (h b (pm.mem_iff.mp hb))] at hab'
    exact le_tn (by simpa using hab')
/-! the loads as they are gathered -/
structure Gath (H : Hp) (w : Nat) (us : List Tn) (ps : List (Key × V)) (ks : List Int) : Prop where
  keys : ps.map (·.1) = ks.map Sum.inl
  inc : ks.Pairwise (· < ·)
  mem : ∀ t, t ∈ ks ↔ ∃ u ∈ us, u.t = t
  val : ∀ (i : Nat) (k : Int) (v : V), ps[i]? = some (Sum.inl k, v) → ∃ a, v = .ref a ∧ H a = some (.tup ((sumT w (us.filter fun u => decide (u.t ≤ k))).map V.int))
theorem Gath.nil {H : Hp} {w : Nat} : Gath H w [] [] [] := ⟨rfl, .nil, fun t => by simp, fun i k v h => by simp at h⟩
theorem Gath.kt {H H' : Hp} {w : Nat} {us : List Tn} {ps : List (Key × V)} {ks : List Int} (k : KTu H H') (g : Gath H w us ps ks) : Gath H' w us ps ks :=
  ⟨g.keys, g.inc, g.mem, fun i t v h => by
    obtain ⟨a, e, h2⟩ := g.val i t v h
    exact ⟨a, e, k _ _ h2⟩⟩
theorem Gath.len {H : Hp} {w : Nat} {us : List Tn} {ps : List (Key × V)} {ks : List Int} (g : Gath H w us ps ks) : ps.length = ks.length := by
  have := congrArg List.length g.keys
  simpa using this
theorem filt_all {us : List Tn} {t : Int} (h : ∀ u ∈ us, u.t ≤ t) : us.filter (fun u => decide (u.t ≤ t)) = us := List.filter_eq_self.mpr fun u hu => decide_eq_true (h u hu)
theorem Gath.put {H : Hp} {w : Nat} {us : List Tn} {ps : List (Key × V)} {ks : List Int} {u : Tn} {a : Addr} (g : Gath H w us ps ks) (le : ∀ x ∈ us, x.t ≤ u.t) (ha : H a = some (.tup ((sumT w (us ++ [u])).map V.int))) :
    ∃ ls, Gath H w (us ++ [u]) (putK ps (Sum.inl u.t) (.ref a)) ls := by
  have all : (us ++ [u]).filter (fun x => decide (x.t ≤ u.t)) = us ++ [u] := filt_all fun x hx => by
    rcases List.mem_append.mp hx with z | z
    · exact le x z
    · rw [List.mem_singleton.mp z]
      exact Int.le_refl _
  have old : ∀ k : Int, k ∈ ks → k ≠ u.t → (us ++ [u]).filter (fun x => decide (x.t ≤ k)) = us.filter (fun x => decide (x.t ≤ k)) := fun k hk ne => by
    obtain ⟨x, hx, rfl⟩ := (g.mem k).mp hk
    have := le x hx
    rw [List.filter_append, List.filter_cons_of_neg (by rw [decide_eq_true_eq]; omega), List.filter_nil, List.append_nil]
  have inks : ∀ (i : Nat) (k : Int) (v : V), ps[i]? = some (Sum.inl k, v) → k ∈ ks := fun i k v h => by
    have : Sum.inl k ∈ ps.map (·.1) := List.mem_map.mpr ⟨_, List.mem_of_getElem? h, rfl⟩
    rw [g.keys] at this
    obtain ⟨k', h1, h2⟩ := List.mem_map.mp this
    injection h2 with h2
    rw [← h2]
    exact h1
  have anyk : (ps.any fun kv => decide (kv.1 = (Sum.inl u.t : Key))) = true ↔ u.t ∈ ks := by
    rw [List.any_eq_true]
    constructor
    · rintro ⟨kv, h1, h2⟩
      have h2 := of_decide_eq_true h2
      have : (Sum.inl u.t : Key) ∈ ps.map (·.1) := List.mem_map.mpr ⟨kv, h1, h2⟩
      rw [g.keys] at this
      obtain ⟨k', h3, h4⟩ := List.mem_map.mp this
      injection h4 with h4
      rw [← h4]
      exact h3
    · intro hk
      have : (Sum.inl u.t : Key) ∈ ps.map (·.1) := by
        rw [g.keys]
        exact List.mem_map.mpr ⟨_, hk, rfl⟩
      obtain ⟨kv, h1, h2⟩ := List.mem_map.mp this
      exact ⟨kv, h1, decide_eq_true h2⟩
  unfold putK
  by_cases hk : u.t ∈ ks
  · rw [if_pos (anyk.mpr hk)]
    refine ⟨ks, ?_, g.inc, fun t => ?_, fun i k v h => ?_⟩
    · rw [List.map_map, ← g.keys]
      refine List.map_congr_left fun kv _ => ?_
      show (if kv.1 = (Sum.inl u.t : Key) then (kv.1, V.ref a) else kv).1 = kv.1
      split <;> rfl
    · rw [g.mem]
      constructor
      · rintro ⟨x, hx, e⟩
        exact ⟨x, List.mem_append.mpr (.inl hx), e⟩
      · rintro ⟨x, hx, e⟩
        rcases List.mem_append.mp hx with z | z
        · exact ⟨x, z, e⟩
        · rw [← e, List.mem_singleton.mp z]
          exact (g.mem _).mp hk
    · rw [List.getElem?_map] at h
      cases e : ps[i]? with
      | none => rw [e] at h; cases h
      | some kv =>
        rw [e] at h
        have h' : (if kv.1 = (Sum.inl u.t : Key) then (kv.1, V.ref a) else kv) = (Sum.inl k, v) := Option.some.inj h
        by_cases c : kv.1 = (Sum.inl u.t : Key)
        · rw [if_pos c, Prod.mk.injEq] at h'
          have ek : (Sum.inl u.t : Key) = Sum.inl k := c.symm.trans h'.1
          injection ek with ek
          refine ⟨a, h'.2.symm, ?_⟩
          rw [← ek, all]
          exact ha
        · rw [if_neg c] at h'
          rw [h'] at e c
          have ne : k ≠ u.t := fun z => c (by rw [z])
          obtain ⟨a', h1, h2⟩ := g.val i k v e
          exact ⟨a', h1, by rw [old k (inks i k v e) ne]; exact h2⟩
  · rw [if_neg fun z => hk (anyk.mp z)]
    refine ⟨ks ++ [u.t], ?_, ?_, fun t => ?_, fun i k v h => ?_⟩
    · rw [List.map_append, g.keys, List.map_append]
      rfl
    · refine List.pairwise_append.mpr ⟨g.inc, List.pairwise_singleton _ _, fun x hx y hy => ?_⟩
      rw [List.mem_singleton.mp hy]
      obtain ⟨z, hz, e⟩ := (g.mem x).mp hx
      have := le z hz
      have ne : x ≠ u.t := fun q => hk (by rw [← q]; exact hx)
      omega
    · rw [List.mem_append, g.mem, List.mem_singleton]
      constructor
      · rintro (⟨x, hx, e⟩ | e)
        · exact ⟨x, List.mem_append.mpr (.inl hx), e⟩
        · exact ⟨u, List.mem_append.mpr (.inr (List.mem_singleton.mpr rfl)), e.symm⟩
      · rintro ⟨x, hx, e⟩
        rcases List.mem_append.mp hx with z | z
        · exact .inl ⟨x, z, e⟩
        · rw [List.mem_singleton.mp z] at e
          exact .inr e.symm
    · rw [List.getElem?_append] at h
      split at h
      · have ne : k ≠ u.t := fun z => hk (by rw [← z]; exact inks i k v h)
        obtain ⟨a', h1, h2⟩ := g.val i k v h
        exact ⟨a', h1, by rw [old k (inks i k v h) ne]; exact h2⟩
      · cases q : i - ps.length with
        | zero =>
          rw [q] at h
          have h' : ((Sum.inl u.t : Key), V.ref a) = (Sum.inl k, v) := Option.some.inj h
          rw [Prod.mk.injEq] at h'
          have ek := h'.1
          injection ek with ek
          refine ⟨a, h'.2.symm, ?_⟩
          rw [← ek, all]
          exact ha
        | succ m => rw [q] at h; cases h
theorem Gath.get {H : Hp} {w : Nat} {us : List Tn} {ps : List (Key × V)} {ks : List Int} (g : Gath H w us ps ks) {i : Nat} {t : Int} (hi : ks[i]? = some t) : ∃ a, valV ps (Sum.inl t : Key) = some (.ref a) ∧ H a = some (.tup ((sumT w (us.filter fun u => decide (u.t ≤ t))).map V.int)) := by
  have e : (ps.map (·.1))[i]? = some (Sum.inl t) := by rw [g.keys, List.getElem?_map, hi]; rfl
  rw [List.getElem?_map] at e
  cases q : ps[i]? with
  | none => rw [q] at e; cases e
  | some kv =>
    rw [q] at e
    have e' : kv.1 = Sum.inl t := Option.some.inj e
    obtain ⟨k, v⟩ := kv
    simp only at e'
    subst e'
    obtain ⟨a, h1, h2⟩ := g.val i t v q
    refine ⟨a, ?_, h2⟩
    rw [← h1]
    refine valV_get ?_ q
    rw [g.keys]
    have nd : ks.Nodup := g.inc.imp fun h z => by omega
    rw [List.Nodup, List.pairwise_map]
    exact nd.imp fun h z => h (by injection z)
theorem Gath.srt {H : Hp} {w : Nat} {rs : List Bw} {us : List Tn} {ps : List (Key × V)} {ks : List Int} (g : Gath H w us ps ks) (p : us.Perm (turns rs)) : Srt rs ks := by
  refine ⟨g.inc, fun t => ?_⟩
  rw [g.mem]
  constructor
  · rintro ⟨u, hu, e⟩
    rcases List.mem_append.mp (p.mem_iff.mp hu) with z | z
    · obtain ⟨x, hx, rfl⟩ := List.mem_map.mp z
      exact ⟨x, hx, .inl e⟩
    · obtain ⟨x, hx, rfl⟩ := List.mem_map.mp z
      exact ⟨x, hx, .inr e⟩
  · rintro ⟨x, hx, e | e⟩
    · exact ⟨begT x, p.mem_iff.mpr (List.mem_append.mpr (.inl (List.mem_map.mpr ⟨x, hx, rfl⟩))), e⟩
    · exact ⟨endT x, p.mem_iff.mpr (List.mem_append.mpr (.inr (List.mem_map.mpr ⟨x, hx, rfl⟩))), e⟩
/-! rows as data -/
def bwD (x : Bw) : PyData := .tuple [.str x.key, .int x.b, .int x.e, .tuple (x.am.map PyData.int)]
theorem dp_bw {K : PySem.W.Frag} {H : Hp} {r : Addr} {x : Bw} (h : BwAt H r x) : Dp K H (.ref r) (bwD x) := by
  obtain ⟨p, h1, h2⟩ := h
  exact .tup (SqT.of h1) (.cons (.str _) (.cons (.int _) (.cons (.int _) (.cons (.tup (SqT.of h2) (dp_ints _)) .nil))))
theorem dp_bws {K : PySem.W.Frag} {H : Hp} : ∀ {as : List Addr} {rs : List Bw}, Paired (BwAt H) as rs → DpAll K H (as.map V.ref) (rs.map bwD)
  | _, _, .nil => .nil
  | _, _, .cons r t => .cons (dp_bw r) (dp_bws t)
theorem lay_bw {x : Bw} (f : PySem.PyData.strOk x.key = true) : PyData.canLay0 (bwD x) = true := by
  simp [bwD, PyData.canLay0, PyData.canLayAll0, f, lay_ints]
theorem dpt_bw (x : Bw) : (bwD x).depth = 2 := by
  simp [bwD, PyData.depth, PyData.depthAll, dpt_ints]
theorem lay_bws : ∀ {rs : List Bw}, (∀ x ∈ rs, PySem.PyData.strOk x.key = true) → PyData.canLayAll0 (rs.map bwD) = true
  | [], _ => rfl
  | x :: rs, h => by
    show (PyData.canLay0 (bwD x) && PyData.canLayAll0 (rs.map bwD)) = true
    rw [lay_bw (h x List.mem_cons_self), lay_bws fun y hy => h y (List.mem_cons_of_mem _ hy)]
    rfl
theorem dpt_bws : ∀ rs : List Bw, PyData.depthAll (rs.map bwD) ≤ 2
  | [] => by simp [PyData.depthAll]
  | x :: rs => by
    have := dpt_bws rs
    simp only [List.map_cons, PyData.depthAll, dpt_bw]
    omega
theorem sh_bws {rs : List Bw} (h : ∀ x ∈ rs, PySem.PyData.strOk x.key = true) : SeqAt.shaped (.list (rs.map bwD)) = true := by
  unfold SeqAt.shaped
  rw [PyData.canLay0, lay_bws h, Bool.true_and, decide_eq_true_eq]
  have := dpt_bws rs
  simp only [PyData.depth]
  omega
/-! promises -/
def spTurns (K : PySem.W.Frag) : Sp := fun vs H Q _ => ∃ (a : Addr) (as : List Addr) (rs : List Bw), vs = [.ref a] ∧ SqL K H a (as.map V.ref) ∧ Paired (BwAt H) as rs ∧ rs.length ≤ 200 ∧
  ∀ p H' us Us, Same H H' → H p = none → H' p = some (.lst (us.map V.ref)) → Paired (TnAt H') us Us → Us.Perm (turns rs) → Us.Pairwise (fun a b => a.t ≤ b.t) → Q (.ref p) H'
def LdAt (w : Nat) (rs : List Bw) (H : Hp) (l : Addr) (q : Int × Int) : Prop := ∃ p, H l = some (.tup [.int q.1, .int q.2, .ref p]) ∧ H p = some (.tup ((netB w rs q.1).map V.int))
theorem LdAt.kt {w : Nat} {rs : List Bw} {H H' : Hp} {l : Addr} {q : Int × Int} (k : KTu H H') (h : LdAt w rs H l q) : LdAt w rs H' l q := by
  obtain ⟨p, h1, h2⟩ := h
  exact ⟨p, k _ _ h1, k _ _ h2⟩
def spLoads (K : PySem.W.Frag) : Sp := fun vs H Q _ => ∃ (a : Addr) (w : Nat) (as : List Addr) (rs : List Bw), vs = [.int (w : Int), .ref a] ∧ SqL K H a (as.map V.ref) ∧ Paired (BwAt H) as rs ∧ BwOk w rs ∧ 1 ≤ w ∧ w ≤ 20 ∧
  ∀ p H' ls ks, Same H H' → H p = none → H' p = some (.lst (ls.map V.ref)) → Srt rs ks → Paired (LdAt w rs H') ls (ks.zip (ks.drop 1)) → Q (.ref p) H'
def spOver (K : PySem.W.Frag) (Ts : List Addr) : Sp := fun vs H Q _ => ∃ (m a : Addr) (room : List Int) (as : List Addr) (rs : List Bw), vs = [.ref m, .ref a] ∧ SqT K H m (room.map V.int) ∧ SqL K H a (as.map V.ref) ∧ Paired (BwAt H) as rs ∧ BwOk room.length rs ∧ 1 ≤ room.length ∧ room.length ≤ 20 ∧ (∀ n ∈ room, 0 ≤ n) ∧ Tabs Ts H ∧
  ∀ H' ks, Fw Ts H H' → Srt rs ks → Q (oI (ks.find? (ovr room.length rs room))) H'
end My

namespace My
open PySem PySem.W PySem.Spec PyProof.Rows L2 GX GxR
/-! the parting, further -/
/-- the own ones and the lent of a list, from a load on -/
def ownOf (dn : List Int) : List Gang → List Int → List Gang
  | [], _ => []
  | G :: Gs, ld => if fitB (addL ld G.whole) dn = true then G :: ownOf dn Gs (addL ld G.whole) else ownOf dn Gs ld
def lentOf (dn : List Int) : List Gang → List Int → List Gang
  | [], _ => []
  | G :: Gs, ld => if fitB (addL ld G.whole) dn = true then lentOf dn Gs (addL ld G.whole) else G :: lentOf dn Gs ld
def loadOf (dn : List Int) : List Gang → List Int → List Int
  | [], ld => ld
  | G :: Gs, ld => if fitB (addL ld G.whole) dn = true then loadOf dn Gs (addL ld G.whole) else loadOf dn Gs ld
theorem partA_eq (dn : List Int) : ∀ (Gs o l : List Gang) (ld : List Int), partA dn Gs o l ld = (o ++ ownOf dn Gs ld, l ++ lentOf dn Gs ld, loadOf dn Gs ld)
  | [], o, l, ld => by
    show (o, l, ld) = (o ++ [], l ++ [], ld)
    rw [List.append_nil, List.append_nil]
  | G :: Gs, o, l, ld => by
    unfold partA ownOf lentOf loadOf
    by_cases h : fitB (addL ld G.whole) dn = true
    · rw [if_pos h, if_pos h, if_pos h, if_pos h, partA_eq dn Gs, List.append_assoc]
      rfl
    · rw [if_neg h, if_neg h, if_neg h, if_neg h, partA_eq dn Gs, List.append_assoc]
      rfl
theorem partRs_eq (dn : List Int) (Rs : List (Gang × Int)) : partRs dn Rs = (ownOf dn ((ord Rs).map (·.1)) (zeros dn.length), lentOf dn ((ord Rs).map (·.1)) (zeros dn.length), loadOf dn ((ord Rs).map (·.1)) (zeros dn.length)) := by
  unfold partRs
  rw [partA_eq, List.nil_append, List.nil_append]
theorem own_sub (dn : List Int) : ∀ (Gs : List Gang) (ld : List Int), (ownOf dn Gs ld).Sublist Gs
  | [], _ => List.Sublist.refl _
  | G :: Gs, ld => by
    unfold ownOf
    split
    · exact (own_sub dn Gs _).cons₂ G
    · exact (own_sub dn Gs _).cons G
theorem lent_sub (dn : List Int) : ∀ (Gs : List Gang) (ld : List Int), (lentOf dn Gs ld).Sublist Gs
  | [], _ => List.Sublist.refl _
  | G :: Gs, ld => by
    unfold lentOf
    split
    · exact (lent_sub dn Gs _).cons G
    · exact (lent_sub dn Gs _).cons₂ G
def nm (Gs : List Gang) : List Str := Gs.map (·.name)
theorem nm_sub {Gs Hs : List Gang} (h : Gs.Sublist Hs) : (nm Gs).Sublist (nm Hs) := h.map _
/-- the names that are among the own ones, those that aren't -/
theorem filt_own {dn : List Int} : ∀ {Gs : List Gang} {ld : List Int}, (nm Gs).Nodup → (nm Gs).filter (fun z => decide (z ∈ nm (ownOf dn Gs ld))) = nm (ownOf dn Gs ld) ∧ (nm Gs).filter (fun z => !decide (z ∈ nm (ownOf dn Gs ld))) = nm (lentOf dn Gs ld)
  | [], _, _ => ⟨rfl, rfl⟩
  | G :: Gs, ld, nd => by
    have nd' : G.name ∉ nm Gs ∧ (nm Gs).Nodup := List.nodup_cons.mp nd
    unfold ownOf lentOf
    by_cases h : fitB (addL ld G.whole) dn = true
    · rw [if_pos h, if_pos h]
      obtain ⟨h1, h2⟩ := filt_own (dn := dn) (ld := addL ld G.whole) nd'.2
      have same : ∀ z ∈ nm Gs, (z ∈ nm (G :: ownOf dn Gs (addL ld G.whole))) ↔ z ∈ nm (ownOf dn Gs (addL ld G.whole)) := fun z hz => by
        refine ⟨fun q => ?_, fun q => List.mem_cons_of_mem _ q⟩
        rcases List.mem_cons.mp q with e | q
        · exact absurd (show G.name ∈ nm Gs from (show z = G.name from e) ▸ hz) nd'.1
        · exact q
      have e0 : decide (G.name ∈ nm (G :: ownOf dn Gs (addL ld G.whole))) = true := decide_eq_true List.mem_cons_self
      refine ⟨?_, ?_⟩
      · show (G.name :: nm Gs).filter _ = _
        rw [List.filter_cons_of_pos (p := fun z => decide (z ∈ nm (G :: ownOf dn Gs (addL ld G.whole)))) e0, List.filter_congr (q := fun z => decide (z ∈ nm (ownOf dn Gs (addL ld G.whole)))) (fun z hz => by simp only [same z hz]), h1]
        rfl
      · show (G.name :: nm Gs).filter _ = _
        rw [List.filter_cons_of_neg (p := fun z => !decide (z ∈ nm (G :: ownOf dn Gs (addL ld G.whole)))) (by rw [e0]; decide), List.filter_congr (q := fun z => !decide (z ∈ nm (ownOf dn Gs (addL ld G.whole)))) (fun z hz => by simp only [same z hz]), h2]
    · rw [if_neg h, if_neg h]
      obtain ⟨h1, h2⟩ := filt_own (dn := dn) (ld := ld) nd'.2
      have no : G.name ∉ nm (ownOf dn Gs ld) := fun q => nd'.1 ((nm_sub (own_sub dn Gs ld)).subset q)
      refine ⟨?_, ?_⟩
      · show (G.name :: nm Gs).filter _ = _
        rw [List.filter_cons_of_neg (p := fun z => decide (z ∈ nm (ownOf dn Gs ld))) (by rw [decide_eq_false no]; decide), h1]
      · show (G.name :: nm Gs).filter _ = _
        rw [List.filter_cons_of_pos (p := fun z => !decide (z ∈ nm (ownOf dn Gs ld))) (by rw [decide_eq_false no]; rfl), h2]
        rfl
/-- what some bear, ware by ware -/
def borneL (n : Nat) (Gs : List Gang) : List Int := (List.range n).map fun k => (Gs.map fun G => G.many * G.want.getD k 0).sum
theorem borne_nil (n : Nat) : borneL n [] = zeros n := by
  unfold borneL zeros
  apply List.ext_getElem?
  intro i
  rw [List.getElem?_map]
  by_cases h : i < n
  · rw [List.getElem?_range h, List.getElem?_replicate, if_pos h]
    rfl
  · rw [List.getElem?_eq_none (by rw [List.length_range]; omega), List.getElem?_replicate, if_neg h]
    rfl
theorem borne_snoc {n : Nat} {Gs : List Gang} {G : Gang} (h : G.want.length = n) : borneL n (Gs ++ [G]) = addL (borneL n Gs) G.whole := by
  unfold addL
  apply List.ext_getElem?
  intro i
  rw [List.getElem?_zipWith]
  unfold borneL Gang.whole
  rw [List.getElem?_map, List.getElem?_map, List.getElem?_map]
  by_cases hi : i < n
  · rw [List.getElem?_range hi, List.getElem?_eq_getElem (by omega)]
    have e : G.want.getD i 0 = G.want[i]'(by omega) := by
      rw [List.getD_eq_getElem?_getD, List.getElem?_eq_getElem (by omega)]
      rfl
    show some ((Gs ++ [G]).map fun G => G.many * G.want.getD i 0).sum = some ((Gs.map fun G => G.many * G.want.getD i 0).sum + G.want[i]'(by omega) * G.many)
    rw [List.map_append, List.sum_append]
    show some (_ + ([G.many * G.want.getD i 0] : List Int).sum) = _
    rw [e, List.sum_singleton, Int.mul_comm]
  · rw [List.getElem?_eq_none (by rw [List.length_range]; omega)]
    rfl
theorem borne_len (n : Nat) (Gs : List Gang) : (borneL n Gs).length = n := by
  unfold borneL
  rw [List.length_map, List.length_range]
/-- own ones alone are own -/
theorem own_own (dn : List Int) : ∀ (Gs : List Gang) (ld : List Int), ownOf dn (ownOf dn Gs ld) ld = ownOf dn Gs ld ∧ lentOf dn (ownOf dn Gs ld) ld = []
  | [], _ => ⟨rfl, rfl⟩
  | G :: Gs, ld => by
    by_cases h : fitB (addL ld G.whole) dn = true
    · have e : ownOf dn (G :: Gs) ld = G :: ownOf dn Gs (addL ld G.whole) := by
        show (if _ then _ else _) = _
        rw [if_pos h]
      obtain ⟨h1, h2⟩ := own_own dn Gs (addL ld G.whole)
      rw [e]
      refine ⟨?_, ?_⟩
      · show (if _ then _ else _) = _
        rw [if_pos h, h1]
      · show (if _ then _ else _) = _
        rw [if_pos h, h2]
    · have e : ownOf dn (G :: Gs) ld = ownOf dn Gs ld := by
        show (if _ then _ else _) = _
        rw [if_neg h]
      rw [e]
      exact own_own dn Gs ld
theorem own_app (dn : List Int) : ∀ (Gs Hs : List Gang) (ld : List Int), ownOf dn (Gs ++ Hs) ld = ownOf dn Gs ld ++ ownOf dn Hs (loadOf dn Gs ld) ∧ lentOf dn (Gs ++ Hs) ld = lentOf dn Gs ld ++ lentOf dn Hs (loadOf dn Gs ld) ∧ loadOf dn (Gs ++ Hs) ld = loadOf dn Hs (loadOf dn Gs ld)
  | [], Hs, ld => ⟨rfl, rfl, rfl⟩
  | G :: Gs, Hs, ld => by
    rw [List.cons_append]
    by_cases h : fitB (addL ld G.whole) dn = true
    · obtain ⟨h1, h2, h3⟩ := own_app dn Gs Hs (addL ld G.whole)
      simp only [ownOf, lentOf, loadOf, if_pos h, h1, h2, h3, List.cons_append, true_and]
    · obtain ⟨h1, h2, h3⟩ := own_app dn Gs Hs ld
      simp only [ownOf, lentOf, loadOf, if_neg h, h1, h2, h3, List.cons_append, true_and]
theorem load_fits (dn : List Int) : ∀ (Gs : List Gang) (ld : List Int), fitB ld dn = true → fitB (loadOf dn Gs ld) dn = true
  | [], _, h => h
  | G :: Gs, ld, h => by
    unfold loadOf
    split
    · exact load_fits dn Gs _ (by assumption)
    · exact load_fits dn Gs _ h
theorem fits_zero {dn : List Int} (h : Amt dn) : fitB (zeros dn.length) dn = true := by
  induction dn with
  | nil => rfl
  | cons d dn ih =>
    have h1 := (h d List.mem_cons_self).1
    have h2 := ih fun x hx => h x (List.mem_cons_of_mem _ hx)
    unfold fitB zeros at *
    rw [List.length_cons, List.replicate_succ, List.zipWith_cons_cons, List.all_cons, h2, Bool.and_true]
    exact decide_eq_true h1
/-- the order of some of the rows -/
theorem ord_filter {Rs : List (Gang × Int)} (h : (Rs.map (·.2)).Nodup) (p : Gang × Int → Bool) : ord (Rs.filter p) = (ord Rs).filter p :=
  (ord_of ((List.Sublist.map (·.2) (List.filter_sublist (p := p) (l := Rs))).nodup h) ((ord_perm Rs).filter p) ((ord_sorted Rs).sublist List.filter_sublist)).symm
theorem ord_take {Rs : List (Gang × Int)} (n : Nat) : ord ((ord Rs).take n) = (ord Rs).take n := List.mergeSort_of_pairwise ((ord_sorted Rs).sublist (List.take_sublist n _))
end My

namespace My
open PySem PySem.W PySem.Spec PyProof.Rows L2
section
variable {X : Cx}
/-- picked values are values that were there -/
theorem pick_vals {xs : List V} {its : List Value} (rv : Vals xs its) : ∀ js : List Nat, ∃ ys : List V, Vals ys (js.filterMap (its.toArray[·]?)) ∧ ∀ y ∈ ys, y ∈ xs
  | [] => ⟨[], .nil, fun _ h => nomatch h⟩
  | j :: js => by
    obtain ⟨ys, h1, h2⟩ := pick_vals rv js
    cases e : xs[j]? with
    | none =>
      have e2 : its.toArray[j]? = none := by
        have := rv.none_of e
        simpa using this
      exact ⟨ys, by rw [List.filterMap_cons_none e2]; exact h1, h2⟩
    | some x =>
      obtain ⟨u, hu, ru⟩ := rv.get e
      have e2 : its.toArray[j]? = some u := by simpa using hu
      refine ⟨x :: ys, by rw [List.filterMap_cons_some e2]; exact .cons ru h1, fun y hy => ?_⟩
      rcases List.mem_cons.mp hy with z | z
      · rw [z]
        exact List.mem_of_getElem? e
      · exact h2 y z
/-- xs[::n] -/
def stepR (K : PySem.W.Frag) (a : Addr) (xs : List V) (Q : VK) (i : Int) (H : Hp) : Prop := i ≠ 0 ∧ SqL K H a xs ∧ ∀ p ys, H p = none → ys.length ≤ xs.length → (∀ y ∈ ys, y ∈ xs) → Q (.ref p) (upd H p (.lst ys))
def stepO (K : PySem.W.Frag) (a : Addr) (xs : List V) (Q : VK) : Option Int → Hp → Prop
  | some i, H => stepR K a xs Q i H
  | none, _ => False
def tStepL (K : PySem.W.Frag) (te ts : TE) : TE := fun σ H Q => te σ H fun x H1 => ∃ a xs, x = .ref a ∧ ts σ H1 fun y H2 => ∃ i : Int, y = .int i ∧ stepR K a xs Q i H2
theorem pe_stepL {e est : Expr} {te ts : TE} {p3 pos : Pos} (he : PE X e te) (hs : PE X est ts) : PE X (.Subscript e (.Slice none none (some est) p3) pos) (tStepL X.K te ts) := by
  refine ⟨fun pins s σ H Q I h => ?_⟩
  refine Subscript_ (thn (he.run pins s σ H _ I h) fun v s1 ⟨x, H1, I1, r1, a, xs, ex, q1⟩ => ?_)
  subst ex
  cases r1
  refine wpAny_Slice (thn (po_none.run pins s1 σ H1 (fun o Hn => o = none ∧ Hn = H1) I1 ⟨rfl, rfl⟩) fun vl s2 ⟨lo, H2, I2, pl, elo, e2⟩ => ?_)
  subst elo e2
  refine thn (po_none.run pins s2 σ H2 (fun o Hn => o = none ∧ Hn = H2) I2 ⟨rfl, rfl⟩) fun vu s3 ⟨hi, H3, I3, pu, ehi, e3⟩ => ?_
  subst ehi e3
  refine thn ((po_some hs).run pins s3 σ H3 (stepO X.K a xs Q) I3 q1) fun vst s4 ⟨st, H4, I4, pst, q4⟩ => ?_
  cases st with
  | none => exact q4.elim
  | some i =>
    obtain ⟨i0, hx, q⟩ := q4
    have kp : ∀ b ob, s4.heap.get? b = some ob → (s4.heap.push { cls := .type "slice", data := .fields #[vl, vu, vst] }).get? b = some ob := fun b ob z => Heap.get?_push_of_some _ z
    have I5 := I4.kept (t' := s4.toks) kp
    obtain ⟨its, rv, pl5, hz⟩ := I5.list hx
    have hlen := rv.length
    have hsz : its.toArray.size ≤ sizeLine := by
      rw [List.size_toArray]
      omega
    refine tail_any (ops := [.ref a, .ref s4.heap.objs.size]) pl5.isList.typeIs slot_list_getitem.lookup ?_ (by with_unfolding_all rfl)
    refine wpAny_getItem_list_slice pl5.isList (Heap.IsSliceOf.new _ vl vu vst) pl pu pst (fun z => i0 (Option.some.inj z)) ?_ hsz
    have ls := slicePick_size_le its.toArray none none (some i)
    obtain ⟨ys, y1, y2⟩ : ∃ ys : List V, Vals ys (slicePick its.toArray none none (some i)).toList ∧ ∀ y ∈ ys, y ∈ xs := by
      unfold slicePick
      exact pick_vals rv _
    have ly : ys.length ≤ xs.length := by
      have l1 := y1.length
      have l2 : (slicePick its.toArray none none (some i)).toList.length = (slicePick its.toArray none none (some i)).size := Array.length_toList
      have sz : its.toArray.size = its.length := List.size_toArray
      omega
    refine ⟨.ref _, _, I5.laid (t' := s4.toks) (o := .lst ys) (fun b ob z => Heap.get?_push_of_some _ z) (Nat.le_refl _) ⟨by omega, _, 0, y1, ?_⟩, rfl, q _ ys (I5.hok.fresh (Nat.le_refl _)) ly y2⟩
    exact Heap.get?_push_size _ rfl
/-- max(xs, default=d), xs a list of whole numbers -/
def rMaxD (K : PySem.W.Frag) : List V → List V → Hp → VK → Prop := fun vs zs H Q => ∃ (a : Addr) (ns : List Int) (d : V), vs = [.ref a] ∧ zs = [d] ∧ SqL K H a (ns.map V.int) ∧ (ns = [] → Q d H) ∧ ∀ m, m ∈ ns → (∀ y ∈ ns, y ≤ m) → Q (.int m) H
theorem read_ints {h : Heap} : ∀ (ns : List Int) (us : List Value), Vals (ns.map V.int) us → ReadsAll h us (ns.map PyData.int) []
  | [], _, .nil => .nil
  | n :: ns, _, .cons r t => by
    obtain ⟨k, rfl⟩ := r
    exact .cons (as := []) (bs := []) (.int n k) (read_ints ns _ t)
theorem cr_maxD (hc : X.calm = true) (hu : X.A.units + 1 < cLine) : CallRK X (.builtin "max") ["default"] (rMaxD X.K) := by
  intro pins s σ H xs zs us ws Q I r1 r2 h
  obtain ⟨a, ns, d, rfl, rfl, hq, q0, q1⟩ := h
  obtain ⟨u, rfl, ru⟩ := vals1 r1
  obtain ⟨u2, rfl, ru2⟩ := vals1 r2
  obtain rfl : u = Value.ref a := ru
  obtain ⟨its, rv, pl, _⟩ := I.list hq
  refine PySem.W.max_list_default (xs := ns.map PyData.int) (as := []) (I.ok.hd hc) pl.isList (read_ints ns its rv) ⟨fun x hx y hy => ?_, fun x hx => ?_⟩ (by rw [PySem.W.ke_depthAll]; exact hu) (fun e h' tk kp => ?_) (fun y ys i v h' tk bs e hv hr kp => ?_)
  · obtain ⟨i, _, rfl⟩ := List.mem_map.mp hx
    obtain ⟨j, _, rfl⟩ := List.mem_map.mp hy
    rfl
  · obtain ⟨i, _, rfl⟩ := List.mem_map.mp hx
    exact fun z => nomatch z
  · have e2 : ns = [] := by
      cases ns with
      | nil => rfl
      | cons _ _ => cases e
    exact ⟨d, H, I.kept kp, ru2, q0 e2⟩
  · cases ns with
    | nil => cases e
    | cons n r =>
      rw [List.map_cons] at e
      injection e with z1 z2
      subst z1 z2
      rw [PySem.W.maxD_ints] at hr
      obtain ⟨t, rfl⟩ : ∃ t, v = Value.int (r.foldl max n) t := by
        cases hr
        exact ⟨_, rfl⟩
      obtain ⟨g1, g2, g3⟩ := GX.fold_max n r
      refine ⟨.int (r.foldl max n), H, I.kept kp, ⟨t, rfl⟩, q1 _ ?_ fun y hy => ?_⟩
      · rcases g1 with z | z
        · rw [z]
          exact List.mem_cons_self
        · exact List.mem_cons_of_mem _ z
      · rcases List.mem_cons.mp hy with z | z
        · rw [z]
          exact g2
        · exact g3 y z
end
end My

namespace My
open PySem PySem.W PySem.Spec PyProof.Rows L2 GX GxR
/-! one more gang, of the greatest number -/
def aboveOf (r : Int) (Rs : List (Gang × Int)) : List (Gang × Int) := Rs.filter fun R => decide (r ≤ R.1.rank)
def belowOf (r : Int) (Rs : List (Gang × Int)) : List (Gang × Int) := Rs.filter fun R => !decide (r ≤ R.1.rank)
def owedB (dn : List Int) (Rs : List (Gang × Int)) (G : Gang) : Bool := fitB (addL (partRs dn Rs).2.2 G.whole) dn
def ownB (dn : List Int) (Rs : List (Gang × Int)) (G : Gang) : Bool := owedB dn (aboveOf G.rank Rs) G
theorem ord_one {Rs : List (Gang × Int)} {G : Gang} {n : Int} (nd : (Rs.map (·.2)).Nodup) (hn : ∀ R ∈ Rs, R.2 < n) : ord (Rs ++ [(G, n)]) = ord (aboveOf G.rank Rs) ++ (G, n) :: ord (belowOf G.rank Rs) := by
  have nd2 : ((Rs ++ [(G, n)]).map (·.2)).Nodup := by
    rw [List.map_append, List.nodup_append]
    refine ⟨nd, List.pairwise_singleton _ _, fun a ha b hb z => ?_⟩
    obtain ⟨R, hR, rfl⟩ := List.mem_map.mp ha
    have := hn R hR
    have hb' : b = n := List.mem_singleton.mp hb
    omega
  refine (ord_of nd2 ?_ ?_).symm
  · have h1 : (aboveOf G.rank Rs ++ belowOf G.rank Rs).Perm Rs := List.filter_append_perm _ Rs
    have h2 := (ord_perm (aboveOf G.rank Rs)).append (ord_perm (belowOf G.rank Rs))
    exact (List.perm_middle.trans ((List.Perm.cons _ (h2.trans h1)))).trans (List.perm_append_comm (l₁ := [(G, n)]))
  · rw [List.pairwise_append]
    refine ⟨ord_sorted _, List.pairwise_cons.mpr ⟨fun b hb => ?_, ord_sorted _⟩, fun a ha b hb => ?_⟩
    · have hb' := (List.mem_filter.mp ((ord_perm _).mem_iff.mp hb)).2
      unfold rowLe
      simp only [Bool.not_eq_true', decide_eq_false_iff_not] at hb'
      rw [decide_eq_true_eq]
      show -G.rank < -b.1.rank ∨ _
      omega
    · obtain ⟨ha1, ha2⟩ := List.mem_filter.mp ((ord_perm _).mem_iff.mp ha)
      have ha3 : G.rank ≤ a.1.rank := of_decide_eq_true ha2
      have ha4 := hn a ha1
      unfold rowLe
      rw [decide_eq_true_eq]
      rcases List.mem_cons.mp hb with z | z
      · rw [z]
        show -a.1.rank < -G.rank ∨ (-a.1.rank = -G.rank ∧ a.2 ≤ n)
        omega
      · have hb' := (List.mem_filter.mp ((ord_perm _).mem_iff.mp z)).2
        simp only [Bool.not_eq_true', decide_eq_false_iff_not] at hb'
        omega
theorem own_mem {dn : List Int} {A B : List Gang} {G : Gang} {ld : List Int} (h : G.name ∉ nm A) (h' : G.name ∉ nm B) : G.name ∈ nm (ownOf dn (A ++ G :: B) ld) ↔ fitB (addL (loadOf dn A ld) G.whole) dn = true := by
  rw [(own_app dn A (G :: B) ld).1]
  unfold nm
  rw [List.map_append, List.mem_append]
  have h1 : G.name ∉ nm (ownOf dn A ld) := fun z => h ((nm_sub (own_sub dn A ld)).subset z)
  have h2 : ∀ ld, G.name ∉ nm (ownOf dn B ld) := fun ld z => h' ((nm_sub (own_sub dn B ld)).subset z)
  show G.name ∈ nm _ ∨ G.name ∈ nm _ ↔ _
  by_cases f : fitB (addL (loadOf dn A ld) G.whole) dn = true
  · refine ⟨fun _ => f, fun _ => .inr ?_⟩
    have e : ownOf dn (G :: B) (loadOf dn A ld) = G :: ownOf dn B (addL (loadOf dn A ld) G.whole) := by
      show (if _ then _ else _) = _
      rw [if_pos f]
    rw [e]
    exact List.mem_cons_self
  · refine ⟨fun z => ?_, fun z => absurd z f⟩
    have e : ownOf dn (G :: B) (loadOf dn A ld) = ownOf dn B (loadOf dn A ld) := by
      show (if _ then _ else _) = _
      rw [if_neg f]
    rw [e] at z
    rcases z with z | z
    · exact absurd z h1
    · exact absurd z (h2 _)
theorem ownB_eq {dn : List Int} {Rs : List (Gang × Int)} {G : Gang} {n : Int} (nd : (Rs.map (·.2)).Nodup) (hn : ∀ R ∈ Rs, R.2 < n) (no : ∀ R ∈ Rs, R.1.name ≠ G.name) : decide (G.name ∈ (partRs dn (Rs ++ [(G, n)])).1.map (·.name)) = ownB dn Rs G := by
  have off : ∀ p : Gang × Int → Bool, G.name ∉ nm ((ord (Rs.filter p)).map (·.1)) := fun p z => by
    obtain ⟨F, hF, e⟩ := List.mem_map.mp z
    obtain ⟨R, hR, rfl⟩ := List.mem_map.mp hF
    exact no R (List.mem_filter.mp ((ord_perm _).mem_iff.mp hR)).1 e
  have e : (partRs dn (Rs ++ [(G, n)])).1 = ownOf dn ((ord (aboveOf G.rank Rs)).map (·.1) ++ G :: (ord (belowOf G.rank Rs)).map (·.1)) (zeros dn.length) := by
    rw [partRs_eq, ord_one nd hn, List.map_append]
    rfl
  have h := own_mem (dn := dn) (ld := zeros dn.length) (off fun R => decide (G.rank ≤ R.1.rank)) (off fun R => !decide (G.rank ≤ R.1.rank))
  have hb : ownB dn Rs G = fitB (addL (loadOf dn ((ord (aboveOf G.rank Rs)).map (·.1)) (zeros dn.length)) G.whole) dn := by
    unfold ownB owedB
    rw [partRs_eq]
  rw [e, hb]
  cases f : fitB (addL (loadOf dn ((ord (aboveOf G.rank Rs)).map (·.1)) (zeros dn.length)) G.whole) dn with
  | true => exact decide_eq_true (h.mpr f)
  | false =>
    refine decide_eq_false fun z => ?_
    have q := h.mp z
    have f' : fitB (addL (loadOf dn ((ord (Rs.filter fun R => decide (G.rank ≤ R.1.rank))).map (·.1)) (zeros dn.length)) G.whole) dn = false := f
    rw [f'] at q
    cases q
/-! texts among texts -/
theorem inV_strs (z : Str) : ∀ zs : List Str, inV (.str z) (zs.map V.str) = decide (z ∈ zs)
  | [] => by simp [inV]
  | y :: zs => by
    have ih := inV_strs z zs
    unfold inV at ih ⊢
    rw [List.map_cons, List.any_cons, ih]
    by_cases h : y = z
    · subst h
      simp [eqV]
    · have h' : ¬ z = y := fun q => h q.symm
      simp [eqV, h, h']
theorem flat_strs (zs : List Str) : (zs.map V.str).all flatV = true := by
  rw [List.all_eq_true]
  intro x hx
  obtain ⟨z, _, rfl⟩ := List.mem_map.mp hx
  rfl
/-! gangs as data -/
theorem sh_gang {G : Gang} {n : Int} (f : Fit (G, n)) : SeqAt.shaped (gangD G) = true := by
  unfold SeqAt.shaped
  have h1 : PyData.canLay0 (gangD G) = true := by
    have a := f.name
    have b := f.guild
    have c := f.how
    simp only at a b c
    simp [gangD, PyData.canLay0, PyData.canLayAll0, a, b, c, lay_ints]
  have h2 : (gangD G).depth = 2 := by simp [gangD, PyData.depth, PyData.depthAll, dpt_ints]
  rw [h1, h2]
  rfl
theorem eqv_gname {G G' : Gang} (h : PyData.eqv (gangD G) (gangD G') = true) : G.name = G'.name := by
  simp only [gangD, PyData.eqv, PyData.eqvAll, Bool.and_eq_true] at h
  exact eq_of_beq h.1
theorem eqv_gang {G : Gang} {n : Int} (f : Fit (G, n)) : PyData.eqv (gangD G) (gangD G) = true := SeqAt.eqv_refl_plain _ (shaped_plain (sh_gang f))
/-! promises -/
structure GIn (H : Hp) (dn : List Int) (g : Addr) (G : Gang) : Prop where
  at_ : GangAt H g G
  fit : Fit (G, 0)
  wlen : G.want.length = dn.length
def spOwed (K : PySem.W.Frag) (Ts : List Addr) : Sp := fun vs H Q _ => ∃ (du a g : Addr) (dn : List Int) (as : List Addr) (Rs : List (Gang × Int)) (G : Gang), vs = [.ref du, .ref a, .ref g] ∧ PIn K H du a dn as Rs ∧ GIn H dn g G ∧ Tabs Ts H ∧ ∀ H', Fw Ts H H' → Q (.bl (owedB dn Rs G)) H'
def spOwnW (K : PySem.W.Frag) (Ts : List Addr) : Sp := fun vs H Q _ => ∃ (du a g : Addr) (dn : List Int) (as : List Addr) (Rs : List (Gang × Int)) (G : Gang), vs = [.ref du, .ref a, .ref g] ∧ PIn K H du a dn as Rs ∧ GIn H dn g G ∧ Rs.length ≤ 90 ∧ (∀ R ∈ Rs, R.1.name ≠ G.name) ∧ Tabs Ts H ∧ ∀ H', Fw Ts H H' → Q (.bl (ownB dn Rs G)) H'
def spLFit (K : PySem.W.Frag) : Sp := fun vs H Q _ => ∃ (du b g : Addr) (dn ld : List Int) (G : Gang), vs = [.ref du, .ref b, .ref g] ∧ SqT K H du (dn.map V.int) ∧ dn.length ≤ 8 ∧ H b = some (.lst (ld.map V.int)) ∧ ld.length = dn.length ∧ GIn H dn g G ∧ ∀ H', Same H H' → Q (.bl (fitB (addL ld G.whole) dn)) H'
theorem GIn.kt {H H' : Hp} {dn : List Int} {g : Addr} {G : Gang} (k : KTu H H') (h : GIn H dn g G) : GIn H' dn g G := ⟨h.at_.kt k, h.fit, h.wlen⟩
theorem part_llen {dn : List Int} : ∀ (Gs : List Gang) (ld : List Int), (∀ G ∈ Gs, G.want.length = dn.length) → ld.length = dn.length → (loadOf dn Gs ld).length = dn.length
  | [], _, _, h => h
  | G :: Gs, ld, hw, h => by
    unfold loadOf
    split
    · exact part_llen Gs _ (fun F hF => hw F (List.mem_cons_of_mem _ hF)) (by rw [addL_len (by rw [whole_len, hw G List.mem_cons_self, h]), h])
    · exact part_llen Gs _ (fun F hF => hw F (List.mem_cons_of_mem _ hF)) h
theorem load_len {dn : List Int} {Rs : List (Gang × Int)} (hw : ∀ R ∈ Rs, R.1.want.length = dn.length) : (partRs dn Rs).2.2.length = dn.length := by
  rw [partRs_eq]
  refine part_llen _ _ (fun G hG => ?_) (by unfold zeros; rw [List.length_replicate])
  obtain ⟨R, hR, rfl⟩ := List.mem_map.mp hG
  exact hw R ((ord_perm Rs).mem_iff.mp hR)
/-- the rows and one more -/
theorem good_one {Rs : List (Gang × Int)} {G : Gang} {n : Int} (g : Good2 Rs) (f : Fit (G, n)) (hl : Rs.length ≤ 90) (hn : ∀ R ∈ Rs, R.2 < n) (no : ∀ R ∈ Rs, R.1.name ≠ G.name) : Good2 (Rs ++ [(G, n)]) := by
  refine ⟨fun R hR => ?_, ?_, ?_, by rw [List.length_append]; show Rs.length + 1 ≤ 100; omega⟩
  · rcases List.mem_append.mp hR with z | z
    · exact g.fit R z
    · rw [List.mem_singleton.mp z]
      exact f
  · rw [List.map_append, List.nodup_append]
    refine ⟨g.names, List.pairwise_singleton _ _, fun a ha b hb z => ?_⟩
    obtain ⟨R, hR, rfl⟩ := List.mem_map.mp ha
    have hb' : b = G.name := List.mem_singleton.mp hb
    exact no R hR (z.trans hb')
  · rw [List.map_append, List.nodup_append]
    refine ⟨g.nums, List.pairwise_singleton _ _, fun a ha b hb z => ?_⟩
    obtain ⟨R, hR, rfl⟩ := List.mem_map.mp ha
    have := hn R hR
    have hb' : b = n := List.mem_singleton.mp hb
    omega
end My

namespace My
open PySem PySem.Spec PyProof.Rows L2 GX GxR
theorem names3 {K : PySem.W.Frag} {neg : Bool} {i : Nat} {l o : Addr} {zs ys : List Str} {x0 x1 x2 x4 x5 x6 x7 x8 x9 x10 x11 x12 x13 x14 : Option V} {H : Hp} {Q : VK} (hi : ([x0, x1, x2, some (.ref o), x4, x5, x6, x7, x8, x9, x10, x11, x12, x13, x14] : L2.St)[i]? = some (some (.ref l)))
    (el : H l = some (.lst (zs.map V.str))) (eo : H o = some (.lst (ys.map V.str))) (hz : zs.length ≤ 100)
    (q : ∀ D H', Same H H' → H D = none → H' D = some (.lst ((zs.filter fun z => if neg then !decide (z ∈ ys) else decide (z ∈ ys)).map V.str)) → Q (.ref D) H') :
    tLc (iList K (tVar i)) (gName 12) (tTest (tOp (rIn K neg) (tVar 12) (tVar 3))) (tVar 12) [12] [x0, x1, x2, some (.ref o), x4, x5, x6, x7, x8, x9, x10, x11, x12, x13, x14] H Q := by
  have ef : (fun z => if neg then !decide (z ∈ ys) else decide (z ∈ ys)) = fun z => if neg then !inV (.str z) (ys.map V.str) else inV (.str z) (ys.map V.str) := by
    funext z
    rw [inV_strs]
  rw [ef] at q
  refine ⟨_, hi, l, rfl, ⟨_, SqL.of el⟩, fun D nD => ?_⟩
  refine lc_list (K := K) (a := l) (xs := zs.map V.str) (fun j H' => Same H H' ∧ H' D = some (.lst (((zs.take j).filter fun z => if neg then !inV (.str z) (ys.map V.str) else inV (.str z) (ys.map V.str)).map V.str)))
    ⟨same_upd nD, upd_same⟩ (fun j H' _ p => SqL.of (p.1 _ _ el)) (fun j x H2 hx p => ?_) (fun H2 p => ?_)
  · obtain ⟨p1, p2⟩ := p
    rw [List.getElem?_map] at hx
    obtain ⟨z, hz', rfl⟩ := Option.map_eq_some_iff.mp hx
    have hj : j < zs.length := (List.getElem?_eq_some_iff.mp hz').1
    refine ⟨rfl, ?_⟩
    refine ⟨_, rfl, _, rfl, o, _, rfl, .inl (SqL.of (p1 _ _ eo)), rfl, flat_strs _, _, rfl, ite2 (fun e => ?_) (fun e => ?_)⟩
    · refine ⟨_, rfl, _, p2, ?_, same_put p1 nD, ?_⟩
      · rw [List.length_map]
        have h1 := List.length_filter_le (fun z => if neg then !inV (.str z) (ys.map V.str) else inV (.str z) (ys.map V.str)) (zs.take j)
        rw [List.length_take] at h1
        exact small63 (by omega)
      · rw [upd_same, List.take_add_one, hz', List.filter_append, Option.toList_some, List.filter_cons_of_pos (p := fun z => if neg then !inV (.str z) (ys.map V.str) else inV (.str z) (ys.map V.str)) e, List.map_append]
        rfl
    · refine ⟨p1, ?_⟩
      rw [List.take_add_one, hz', List.filter_append, Option.toList_some, List.filter_cons_of_neg (p := fun z => if neg then !inV (.str z) (ys.map V.str) else inV (.str z) (ys.map V.str)) e, List.filter_nil, List.append_nil]
      exact p2
  · obtain ⟨p1, p2⟩ := p
    rw [List.length_map, List.take_of_length_le (Nat.le_refl _)] at p2
    exact q D H2 p1 nD p2
theorem names10 {K : PySem.W.Frag} {neg : Bool} {i : Nat} {l o : Addr} {zs ys : List Str} {x0 x1 x2 x3 x4 x5 x6 x7 x8 x9 x11 x12 x13 x14 : Option V} {H : Hp} {Q : VK} (hi : ([x0, x1, x2, x3, x4, x5, x6, x7, x8, x9, some (.ref o), x11, x12, x13, x14] : L2.St)[i]? = some (some (.ref l)))
    (el : H l = some (.lst (zs.map V.str))) (eo : H o = some (.lst (ys.map V.str))) (hz : zs.length ≤ 100)
    (q : ∀ D H', Same H H' → H D = none → H' D = some (.lst ((zs.filter fun z => if neg then !decide (z ∈ ys) else decide (z ∈ ys)).map V.str)) → Q (.ref D) H') :
    tLc (iList K (tVar i)) (gName 12) (tTest (tOp (rIn K neg) (tVar 12) (tVar 10))) (tVar 12) [12] [x0, x1, x2, x3, x4, x5, x6, x7, x8, x9, some (.ref o), x11, x12, x13, x14] H Q := by
  have ef : (fun z => if neg then !decide (z ∈ ys) else decide (z ∈ ys)) = fun z => if neg then !inV (.str z) (ys.map V.str) else inV (.str z) (ys.map V.str) := by
    funext z
    rw [inV_strs]
  rw [ef] at q
  refine ⟨_, hi, l, rfl, ⟨_, SqL.of el⟩, fun D nD => ?_⟩
  refine lc_list (K := K) (a := l) (xs := zs.map V.str) (fun j H' => Same H H' ∧ H' D = some (.lst (((zs.take j).filter fun z => if neg then !inV (.str z) (ys.map V.str) else inV (.str z) (ys.map V.str)).map V.str)))
    ⟨same_upd nD, upd_same⟩ (fun j H' _ p => SqL.of (p.1 _ _ el)) (fun j x H2 hx p => ?_) (fun H2 p => ?_)
  · obtain ⟨p1, p2⟩ := p
    rw [List.getElem?_map] at hx
    obtain ⟨z, hz', rfl⟩ := Option.map_eq_some_iff.mp hx
    have hj : j < zs.length := (List.getElem?_eq_some_iff.mp hz').1
    refine ⟨rfl, ?_⟩
    refine ⟨_, rfl, _, rfl, o, _, rfl, .inl (SqL.of (p1 _ _ eo)), rfl, flat_strs _, _, rfl, ite2 (fun e => ?_) (fun e => ?_)⟩
    · refine ⟨_, rfl, _, p2, ?_, same_put p1 nD, ?_⟩
      · rw [List.length_map]
        have h1 := List.length_filter_le (fun z => if neg then !inV (.str z) (ys.map V.str) else inV (.str z) (ys.map V.str)) (zs.take j)
        rw [List.length_take] at h1
        exact small63 (by omega)
      · rw [upd_same, List.take_add_one, hz', List.filter_append, Option.toList_some, List.filter_cons_of_pos (p := fun z => if neg then !inV (.str z) (ys.map V.str) else inV (.str z) (ys.map V.str)) e, List.map_append]
        rfl
    · refine ⟨p1, ?_⟩
      rw [List.take_add_one, hz', List.filter_append, Option.toList_some, List.filter_cons_of_neg (p := fun z => if neg then !inV (.str z) (ys.map V.str) else inV (.str z) (ys.map V.str)) e, List.filter_nil, List.append_nil]
      exact p2
  · obtain ⟨p1, p2⟩ := p
    rw [List.length_map, List.take_of_length_le (Nat.le_refl _)] at p2
    exact q D H2 p1 nD p2

theorem sub_filter : ∀ {ow Gs : List Gang}, ow.Sublist Gs → (nm Gs).Nodup → Gs.filter (fun G => decide (G.name ∈ nm ow)) = ow
  | _, _, .slnil, _ => rfl
  | ow, G :: Gs, .cons _ h, nd => by
    have nd' := List.nodup_cons.mp (show (G.name :: nm Gs).Nodup from nd)
    have no : ¬ (decide (G.name ∈ nm ow)) = true := fun z => nd'.1 ((nm_sub h).subset (of_decide_eq_true z))
    rw [List.filter_cons_of_neg (p := fun G' : Gang => decide (G'.name ∈ nm ow)) no]
    exact sub_filter h nd'.2
  | _, G :: Gs, .cons₂ (l₁ := ow) _ h, nd => by
    have nd' := List.nodup_cons.mp (show (G.name :: nm Gs).Nodup from nd)
    have yes : (decide (G.name ∈ nm (G :: ow))) = true := decide_eq_true (show G.name ∈ G.name :: nm ow from List.mem_cons_self)
    rw [List.filter_cons_of_pos (p := fun G' : Gang => decide (G'.name ∈ nm (G :: ow))) yes]
    have e : Gs.filter (fun G' => decide (G'.name ∈ nm (G :: ow))) = Gs.filter (fun G' => decide (G'.name ∈ nm ow)) := by
      refine List.filter_congr fun G' hG' => ?_
      have ne : G'.name ≠ G.name := fun z => nd'.1 (by rw [← z]; exact List.mem_map.mpr ⟨G', hG', rfl⟩)
      show decide (G'.name ∈ G.name :: nm ow) = _
      by_cases hm : G'.name ∈ nm ow
      · rw [decide_eq_true hm, decide_eq_true (List.mem_cons_of_mem _ hm)]
      · rw [decide_eq_false hm, decide_eq_false fun z => (List.mem_cons.mp z).elim ne hm]
    rw [e, sub_filter h nd'.2]
theorem own_one (dn : List Int) (Gs : List Gang) (G : Gang) (ld : List Int) : ownOf dn (Gs ++ [G]) ld = ownOf dn Gs ld ++ (if fitB (addL (loadOf dn Gs ld) G.whole) dn = true then [G] else []) ∧ loadOf dn (Gs ++ [G]) ld = if fitB (addL (loadOf dn Gs ld) G.whole) dn = true then addL (loadOf dn Gs ld) G.whole else loadOf dn Gs ld := by
  obtain ⟨h1, h2, h3⟩ := own_app dn Gs [G] ld
  rw [h1, h3]
  refine ⟨?_, ?_⟩
  · congr 1
  · rw [loadOf]
    split <;> rfl
theorem take_borne {dn : List Int} {Gs : List Gang} (hw : ∀ G ∈ Gs, G.want.length = dn.length) : ∀ i, borneL dn.length (ownOf dn (Gs.take i) (zeros dn.length)) = loadOf dn (Gs.take i) (zeros dn.length)
  | 0 => by
    rw [List.take_zero]
    exact borne_nil _
  | i + 1 => by
    rw [List.take_add_one]
    cases hG : Gs[i]? with
    | none =>
      rw [Option.toList_none, List.append_nil]
      exact take_borne hw i
    | some G =>
      rw [Option.toList_some]
      obtain ⟨h1, h2⟩ := own_one dn (Gs.take i) G (zeros dn.length)
      rw [h1, h2]
      have ih := take_borne hw i
      split
      · rw [borne_snoc (hw G (List.mem_of_getElem? hG)), ih]
      · rw [List.append_nil, ih]
theorem all_borne {dn : List Int} {Gs : List Gang} (hw : ∀ G ∈ Gs, G.want.length = dn.length) : borneL dn.length (ownOf dn Gs (zeros dn.length)) = loadOf dn Gs (zeros dn.length) := by
  have h := take_borne hw Gs.length
  rw [List.take_length] at h
  exact h
/-- the names told of the first m -/
theorem filt_take {m : Nat} {Gs As Bs : List Gang} (nd : (nm Gs).Nodup) (ha : As.Sublist (Gs.take m)) (hb : Bs.Sublist (Gs.drop m)) : (nm (As ++ Bs)).filter (fun z => decide (z ∈ (nm Gs).take m)) = nm As := by
  have e : (nm Gs).take m = nm (Gs.take m) := List.map_take.symm
  have nd2 : (nm (Gs.take m) ++ nm (Gs.drop m)).Nodup := by
    have : nm (Gs.take m) ++ nm (Gs.drop m) = nm Gs := by
      unfold nm
      rw [← List.map_append, List.take_append_drop]
    rw [this]
    exact nd
  have ap := (List.nodup_append.mp nd2).2.2
  have e2 : nm (As ++ Bs) = nm As ++ nm Bs := List.map_append
  rw [e, e2, List.filter_append, List.filter_eq_self.mpr fun z hz => decide_eq_true ((nm_sub ha).subset hz), List.filter_eq_nil_iff.mpr fun z hz => ?_, List.append_nil]
  intro q
  exact ap z (of_decide_eq_true q) z ((nm_sub hb).subset hz) rfl
theorem paired_take {α β : Type} {R : α → β → Prop} : ∀ {xs : List α} {ys : List β}, Paired R xs ys → ∀ m, Paired R (xs.take m) (ys.take m)
  | _, _, .nil, m => by
    rw [List.take_nil, List.take_nil]
    exact .nil
  | _, _, .cons h t, 0 => .nil
  | _, _, .cons h t, m + 1 => .cons h (paired_take t m)
theorem rg60 : ∀ n : Fin 61, Builtin.Range.small 0 (n.val : Int) (1 + (n.val : Int) / 6) = true := by decide +kernel
theorem rg_six {n : Nat} (h : n ≤ 60) : ∃ m, RgC 0 (n : Int) (1 + (n : Int) / 6) m :=
  ⟨_, by omega, by omega, rg60 ⟨n, by omega⟩, PyProof.Rows.rangeSize_toNat _ _ _⟩
theorem sh_two {zs ys : List Str} (h : ∀ z ∈ zs, PySem.PyData.strOk z = true) (h' : ∀ z ∈ ys, PySem.PyData.strOk z = true) : SeqAt.shaped (.tuple [.list (zs.map PyData.str), .list (ys.map PyData.str)]) = true := by
  unfold SeqAt.shaped
  have h1 : PyData.canLay0 (.tuple [.list (zs.map PyData.str), .list (ys.map PyData.str)]) = true := by
    simp [PyData.canLay0, PyData.canLayAll0, lay_strs h, lay_strs h']
  have h2 : (PyData.tuple [.list (zs.map PyData.str), .list (ys.map PyData.str)]).depth ≤ 64 := by
    simp only [PyData.depth, PyData.depthAll, dpt_strs]
    decide
  rw [h1, decide_eq_true h2]
  rfl
theorem eqv_self {d : PyData} (h : SeqAt.shaped d = true) : PyData.eqv d d = true := SeqAt.eqv_refl_plain _ (shaped_plain h)
end My

set_option maxHeartbeats 2000000
/-! sets of texts: made, filled, walked in sorted order; set comprehensions of texts. -/
namespace SX
open PySem PySem.Spec PyProof.Rows L2 PpSet
def txtOf (e : Int × Value) : Str := match e.2 with | .str z _ => z | _ => Str.ofString ""
/-- an entry of the text z -/
def IsT (P : Program) (w : World) (e : Int × Value) : Prop := ∃ z t, e.2 = Value.str z t ∧ e.1 = (strKind P w).hash z
/-- the set of the texts zs at a; its table rises and can be walked -/
def TSet (P : Program) (w : World) (h : Heap) (a : Addr) (zs : List Str) : Prop :=
  ∃ o es ep t, h.get? a = some o ∧ o.ExactSet ∧ o.data = .set es ep t ∧ (∀ e ∈ es.toList, IsT P w e) ∧ (es.toList.map txtOf).Perm zs ∧ zs.Nodup ∧
    es.size < scanBound ∧ t.fits es.size = true ∧ Ris t.place.toList ∧ (w.params.followText "set-order" = true ∨ t.led = true)
section
variable {P : Program} {w : World} {h h' : Heap} {a : Addr} {zs : List Str}
theorem TSet.at (R : TSet P w h a zs) (k : ∀ o, h.get? a = some o → h'.get? a = some o) : TSet P w h' a zs := by
  obtain ⟨o, es, ep, t, ho, r⟩ := R
  exact ⟨o, es, ep, t, k o ho, r⟩
theorem TSet.size (R : TSet P w h a zs) : ∃ o es ep t, h.get? a = some o ∧ o.data = .set es ep t ∧ es.size = zs.length := by
  obtain ⟨o, es, ep, t, ho, _, hd, _, pm, _⟩ := R
  exact ⟨o, es, ep, t, ho, hd, by rw [← Array.length_toList, ← List.length_map (f := txtOf), pm.length_eq]⟩
theorem isT_is {e : Int × Value} (g : IsT P w e) (z : Str) : (strKind P w).is z e.2 = true ↔ txtOf e = z := by
  obtain ⟨y, t, h1, _⟩ := g
  unfold txtOf
  rw [h1]
  simp [PySem.strKind, Value.isStrOf]
theorem isT_elems {l : List (Int × Value)} (g : ∀ e ∈ l, IsT P w e) : ElemsOf (strKind P w) l := fun e he => by
  obtain ⟨z, t, h1, h2⟩ := g e he
  exact ⟨⟨z, by rw [h1]; exact strKind_is P w z t, h2⟩, by rw [h1]; rfl⟩
theorem TSet.setOf (R : TSet P w h a zs) : h.SetOf (strKind P w) a (fun z => decide (z ∈ zs)) zs.length := by
  obtain ⟨o, es, ep, t, ho, hx, hd, g, pm, nd, hb, hf, _⟩ := R
  refine ⟨o, es, ep, t, ho, hx, hd, isT_elems g, fun z => ?_, hb, hf, by rw [← Array.length_toList, ← List.length_map (f := txtOf), pm.length_eq]⟩
  rw [decide_eq_true_eq, ← pm.mem_iff, List.mem_map]
  exact ⟨fun ⟨e, he, q⟩ => ⟨e, he, (isT_is (g e he) z).2 q⟩, fun ⟨e, he, q⟩ => ⟨e, he, (isT_is (g e he) z).1 q⟩⟩
end
section
variable {P : Program} {w : World} {A : Around} {E : Value → Shared → Prop} {s : Shared} {a : Addr} {zs : List Str}
/-- what is stored, and stored again where the table grows -/
theorem stored {g : Bool → Sem Unit} (hg : ∀ (b : Bool) (s₁ : Shared) (Q' : Unit → Shared → Prop), Q' () s₁ → wpAny (model P w) A (g b) Q' E s₁) {o : Obj} {es es1 : Array (Int × Value)} {ep : Nat} {t t2 : SetTable}
    (ho : s.heap.get? a = some o) (hex : o.ExactSet) (hd : o.data = .set es ep t) (g1 : ∀ e ∈ es1.toList, IsT P w e) (p1 : (es1.toList.map txtOf).Perm zs) (nd : zs.Nodup) (hb : es1.size < scanBound) (hf : t2.fits es1.size = true)
    (hr : Ris t2.place.toList) (hl : w.params.followText "set-order" = true ∨ t2.led = true) {d : Bool} {R : Option Bool → Shared → Prop} (hR : ∀ h', Heap.SameBut a s.heap h' → TSet P w h' a zs → R (some true) { s with heap := h' }) :
    wpAny (model P w) A (do
        storeSet a es1 t2
        if (!d && t2.tooFull) = true then do
            g (relayAll t2 es1 (SetTable.grown es1.size)).2.2
            storeSet a (relayAll t2 es1 (SetTable.grown es1.size)).1 (relayAll t2 es1 (SetTable.grown es1.size)).2.1
            pure (some true)
          else pure (some true)) R E s := by
  refine wpAny_bind (wpAny_storeSet_of ho hd ?_ (fits_of_scanBound hb))
  have ho1 := storeB_at (es' := es1) (t' := t2) ho hd
  have sb1 := Heap.SameBut.update s.heap a (Obj.putSet es1 t2)
  split
  · have pm := relayAll_perm t2 es1 (SetTable.grown es1.size)
    have q1 := relayAll_fits t2 es1 (SetTable.grown es1.size)
    have q2 := relayAll_ris t2 es1 (SetTable.grown es1.size)
    have q3 := relayAll_led t2 es1 (SetTable.grown es1.size)
    generalize relayAll t2 es1 (SetTable.grown es1.size) = Z at pm q1 q2 q3 ⊢
    obtain ⟨es2, t3, gave⟩ := Z
    dsimp only at pm q1 q2 q3 ⊢
    have hb2 : es2.size < scanBound := by rw [← Array.length_toList, pm.length_eq, Array.length_toList]; exact hb
    refine wpAny_bind (hg _ _ _ (wpAny_bind (wpAny_storeSet_of ho1 rfl ?_ (fits_of_scanBound hb2))))
    exact wpAny_pure (hR _ (sb1.trans (Heap.SameBut.update _ a _)) ⟨_, es2, _, t3, storeB_at (es' := es2) (t' := t3) ho1 rfl, hex, rfl, fun e he => g1 e (pm.mem_iff.mp he), (pm.map txtOf).trans p1, nd, hb2, q1, q2, hl.imp id fun z => by rw [q3]; exact z⟩)
  · exact wpAny_pure (hR _ sb1 ⟨_, es1, _, t2, ho1, hex, rfl, g1, p1, nd, hb, hf, hr, hl⟩)
/-- the texts with z -/
def more (zs : List Str) (z : Str) : List Str := if z ∈ zs then zs else z :: zs
theorem add_hashed {z : Str} {tk : Tok} {Q : Bool → Shared → Prop} (R : TSet P w s.heap a zs) (room : zs.length + 1 < scanBound) (hQ : ∀ b h', Heap.SameBut a s.heap h' → TSet P w h' a (more zs z) → Q b { s with heap := h' }) :
    wpAny (model P w) A (setAddHashed a (.str z tk) ((strKind P w).hash z)) Q E s := by
  have R0 := R
  obtain ⟨o, es, ep, t, ho, hex, hd, g, pm, nd, hb, hf, hr, hl⟩ := R
  have hkey : (strKind P w).is z (.str z tk) = true := strKind_is P w z tk
  have hsc : (Value.str z tk).scannable = true := rfl
  have hel : ElemsOf (strKind P w) es.toList := isT_elems g
  have hlen : es.size = zs.length := by rw [← Array.length_toList, ← List.length_map (f := txtOf), pm.length_eq]
  unfold setAddHashed setAddHashedIn
  refine wpAny_holding (wpAny_bind (wpAny_setState_of ho hd hf ?_))
  dsimp only
  rw [byScan_of hsc hb hel]
  simp only [↓reduceIte]
  unfold setAddByScan
  refine wpAny_bind (wpAny_bind (wpAny_rule (wpAny_bind (wpAny_setScan_of hkey ho hd hf hel ?_))))
  cases hfi : List.findIdx? (fun e => (strKind P w).is z e.2) es.toList with
  | some j =>
    dsimp only
    obtain ⟨hj, pj, _⟩ := List.findIdx?_eq_some_iff_getElem.mp hfi
    have hz : z ∈ zs := pm.mem_iff.mp (List.mem_map.mpr ⟨es.toList[j], List.getElem_mem hj, (isT_is (g _ (List.getElem_mem hj)) z).1 pj⟩)
    refine wpAny_pure (wpAny_pure (hQ _ s.heap (Heap.SameBut.refl a s.heap) ?_))
    unfold more
    rw [if_pos hz]
    exact R0
  | none =>
    dsimp only
    have hz : z ∉ zs := fun q => by
      obtain ⟨e, he, q⟩ := List.mem_map.mp (pm.mem_iff.mpr q)
      have c := List.findIdx?_eq_none_iff.mp hfi e he
      rw [(isT_is (g e he) z).2 q] at c
      cases c
    have hgw : ∀ (b : Bool) {s₁ : Shared} {Q' : Unit → Shared → Prop}, Q' () s₁ → wpAny (model P w) A (match b with | true => rule "set.scan.the-table-gave-way" | false => pure ()) Q' E s₁ :=
      fun b s₁ Q' q => by cases b <;> first | exact wpAny_pure q | exact wpAny_rule q
    have pe := layNew_perm t es ((strKind P w).hash z) (.str z tk)
    have f1 := layNew_fits t es ((strKind P w).hash z) (.str z tk)
    have r1 := layNew_ris t es ((strKind P w).hash z) (.str z tk) hr
    have l1 := layNew_led t es ((strKind P w).hash z) (.str z tk)
    generalize layNew t es ((strKind P w).hash z) (.str z tk) = Z at pe f1 r1 l1 ⊢
    obtain ⟨es1, t1, wasDummy, gave⟩ := Z
    dsimp only at pe f1 r1 l1 ⊢
    rw [Array.toList_push] at pe
    have pc : es1.toList.Perm (((strKind P w).hash z, Value.str z tk) :: es.toList) := pe.trans (List.perm_append_singleton _ _)
    have p1 : (es1.toList.map txtOf).Perm (z :: zs) := (pc.map txtOf).trans (pm.cons z)
    have g1 : ∀ e ∈ es1.toList, IsT P w e := fun e he => by
      rcases List.mem_cons.mp (pc.mem_iff.mp he) with q | q
      · rw [q]
        exact ⟨z, tk, rfl, rfl⟩
      · exact g e q
    have nd1 : (z :: zs).Nodup := List.nodup_cons.mpr ⟨hz, nd⟩
    have hb1 : es1.size < scanBound := by
      rw [← Array.length_toList, pc.length_eq, List.length_cons, Array.length_toList, hlen]
      exact room
    have led : w.params.followText "set-order" = true ∨ t1.led = true := hl.imp id fun q => by rw [l1]; exact q
    have fin : ∀ b h', Heap.SameBut a s.heap h' → TSet P w h' a (z :: zs) → Q b { s with heap := h' } := fun b h' sb r => by
      have q := hQ b h' sb
      unfold more at q
      rw [if_neg hz] at q
      exact q r
    refine wpAny_bind (hgw _ ?_)
    split
    · refine wpAny_bind ?_
      rw [hashByValue_scannable 8 hsc]
      refine wpAny_pure ?_
      refine stored ?_ ho hex hd g1 p1 nd1 hb1 ?_ ?_ ?_ ?_
      · intro b s₁ Q' q; cases b <;> first | exact wpAny_pure q | exact wpAny_rule q
      · first | (split <;> first | exact f1 | exact SetTable.fits_plain_off f1) | exact f1
      · first | (split <;> exact r1) | exact r1
      · first | (split <;> exact led) | exact led
      · intro h' sb r; dsimp only; exact wpAny_pure (fin _ h' sb r)
    · refine wpAny_bind (wpAny_pure ?_)
      simp only [↓reduceIte]
      refine stored ?_ ho hex hd g1 p1 nd1 hb1 f1 r1 led ?_
      · intro b s₁ Q' q; cases b <;> first | exact wpAny_pure q | exact wpAny_rule q
      · intro h' sb r; dsimp only; exact wpAny_pure (fin _ h' sb r)
/-- xs.add(z) -/
theorem add_run {z : Str} {tk : Tok} {Q : Value → Shared → Prop} (R : TSet P w s.heap a zs) (room : zs.length + 1 < scanBound) (hQ : ∀ h', Heap.SameBut a s.heap h' → TSet P w h' a (more zs z) → Q .none { s with heap := h', toks := s.toks + 1 }) :
    wpAny (model P w) A (call (.builtin "set.add") [.ref a, .str z tk]) Q E s := by
  refine wpAny_call_entry F.slot_set_add (R.setOf).typeIs F.entry_set_add ?_ (F.args_set_add_2 _ _)
  unfold Builtin.«set.add» Builtin.Frozenset.oneOther
  simp only [List.isEmpty_nil, bind_assoc]
  unfold Builtin.Frozenset.addrOf setAdd
  refine wpAny_bind (wpAny_pure ?_)
  try dsimp only
  refine wpAny_bind (wpAny_pure ?_)
  try dsimp only
  refine wpAny_bind (wpAny_holding (wpAny_bind ((strKind P w).pyHash (strKind_is P w z tk) ?_)))
  refine add_hashed (s := { s with toks := s.toks + 1 }) R room fun b h' sb r => ?_
  show wpAny _ _ (ret Value.none) _ _ _
  exact wpAny_pure ⟨_, rfl, hQ h' sb r⟩
theorem fresh_set {h : Heap} (P : Program) (w : World) : TSet P w (h.push { cls := .type "set", dict := none, data := .set #[] 0 (.fresh 0 0 (!w.params.followText "set-order")) }) h.objs.size [] :=
  ⟨_, #[], 0, _, Heap.get?_push_size _ rfl, ⟨rfl, rfl, rfl⟩, rfl, (fun e he => by simp at he), .refl _, .nil, by decide, by rfl, List.Pairwise.nil, by
    show _ ∨ (!w.params.followText "set-order") = true
    cases w.params.followText "set-order"
    · exact .inr rfl
    · exact .inl rfl⟩
end
/-! ### tracked -/
def SetSO (P : Program) (w : World) (a : Addr) (zs : List Str) : HO := .ext fun h => TSet P w h a zs
theorem setSO_new {w : World} {P : Program} {H : Hp} {h : Heap} {a : Addr} {zs : List Str} (R : TSet P w h a zs) : ObjOk P w H h a (SetSO P w a zs) := by
  have ⟨o, _, _, _, ho, _⟩ := R
  exact ⟨R, ⟨o, ho⟩, fun h1 h2 p k => TSet.at p k⟩
section
variable {X : Cx}
theorem setSO_get {pins : List (Addr × Obj)} {σ : L2.St} {H : Hp} {s : Shared} {a : Addr} {zs : List Str} (I : Inv X pins σ H s) (ha : H a = some (SetSO X.prog X.w a zs)) : TSet X.prog X.w s.heap a zs := (I.hok a _ ha).1
theorem add_ok {pins : List (Addr × Obj)} {σ : L2.St} {H : Hp} {s : Shared} {E : Value → Shared → Prop} {D : Addr} {zs : List Str} {z : Str} {tk : Tok} {Q : Value → Shared → Prop} (I : Inv X pins σ H s) (hD : H D = some (SetSO X.prog X.w D zs)) (room : zs.length + 1 < scanBound)
    (h : ∀ s', Inv X pins σ (upd H D (SetSO X.prog X.w D (more zs z))) s' → Q .none s') : wpAny (model X.prog X.w) X.A (call (.builtin "set.add") [.ref D, .str z tk]) Q E s := by
  refine add_run (setSO_get I hD) room fun h' sb new => ?_
  have he : ∃ u, h'.get? D = some u := by
    have ⟨o, _, _, _, ho, _⟩ := new
    exact ⟨o, ho⟩
  exact h _ (I.write (e := D) (t' := s.toks + 1) (by rw [hD]; trivial) (.inl rfl) (fun b u hb hu => (sb.2 b hb).trans hu) he (setSO_new new))
end
end SX

set_option maxHeartbeats 2000000
/-! {text for .. in ..} and sorted of a set of texts. -/
namespace SX
open PySem PySem.Spec PyProof.Rows L2 PpSet PySem.W
section
variable {X : Cx}
/-- {elt for target in iter if ..}, elt a text: D the new set -/
def tScS (P : Program) (w : World) (wi : TI) (g : TG) (tt : TT) (te : TE) (vs : List Nat) : TE := fun σ H Q => wi σ H fun J H1 => ∀ D, H1 D = none → ∃ W : Nat → Nat → Hp → Prop, (∃ m, W 0 m (upd H1 D (SetSO P w D []))) ∧ ∀ i m H, W i m H →
  (J.stop i H ∧ Q (.ref D) H) ∨ (J.go i H ∧ ∃ Nx : Hp → Prop, (∀ H', Nx H' → ∃ m', m' < m ∧ W (i + 1) m' H') ∧ ∀ x H', J.yld i H x H' → g x (wipe σ vs) H' fun σ2 H2 => wipe σ2 vs = wipe σ vs ∧ tt σ2 H2 fun b H3 =>
    if b = true then te σ2 H3 fun y H4 => ∃ (z : Str) (zs : List Str), y = .str z ∧ H4 D = some (SetSO P w D zs) ∧ zs.length + 1 < scanBound ∧ Nx (upd H4 D (SetSO P w D (more zs z))) else Nx H3)
theorem pe_scS {elt tg iter : Expr} {ifs : List Expr} {scope : Scope} {own : List (PySem.Str × Nat)} {pos : Pos} {wi : TI} {g : TG} {tt : TT} {te : TE} (hc : X.calm = true) (hN : X.N.Nodup) (hi : PI X tg iter wi) (ok : BlkOk X.N X.env.scope scope own)
    (hg : ∀ (s : Shared) (H : Hp) (C : Addr) (cl : List (PySem.Str × Addr)) (fp : List Addr), PG (X.blk s H scope (compEnvC scope cl C X.env) fp) tg g) (ht : ∀ (s : Shared) (H : Hp) (C : Addr) (cl : List (PySem.Str × Addr)) (fp : List Addr), PTs (X.blk s H scope (compEnvC scope cl C X.env) fp) ifs tt)
    (he : ∀ (s : Shared) (H : Hp) (C : Addr) (cl : List (PySem.Str × Addr)) (fp : List Addr), PE (X.blk s H scope (compEnvC scope cl C X.env) fp) elt te) (hs : ∀ x, foldedSetIterable iter X.env x = pure x := by intro _; rfl) :
    PE X (.SetComp elt [⟨tg, iter, ifs, 0⟩] scope pos) (tScS X.prog X.w wi g tt te (own.map (·.2))) := by
  refine ⟨fun pins s σ H Q I h => ?_⟩
  rw [eval_SetComp]
  have hfree : ∀ y ∈ scope.names, y.2 = .free → ∃ c, X.env.cells.lookup y.1 = some c := fun y hy e => (ok.free y hy e).elim (fun k => I.ok.has _ (.inl k)) fun k => I.ok.has _ (.inr k)
  refine wpAny_comprehension_free (use := none) rfl hs (closure_ok hfree) ok.kind (fun y hy e => by rw [ok.uniq y hy, e]) (thn (hi.run pins s σ H _ I h) fun xv s1 hx => thn hx fun itv s2 h2 => ?_)
  obtain ⟨it, fp, tn, J, H2, e, I2, T, st2, f2, q⟩ := h2
  subst e
  refine newSet_ok (newEnv_comp ?_)
  generalize hD : s2.heap.objs.size = D
  obtain ⟨W, ⟨m0, w0⟩, turn⟩ := q D (I2.hok.fresh (Nat.le_of_eq hD))
  -- the new set
  generalize hs3 : ({ s2 with heap := s2.heap.push { cls := .type "set", dict := none, data := .set #[] 0 (.fresh 0 0 (!X.w.params.followText "set-order")) } } : Shared) = s3
  have h3 : s3.heap = s2.heap.push { cls := .type "set", dict := none, data := .set #[] 0 (.fresh 0 0 (!X.w.params.followText "set-order")) } := by rw [← hs3]
  have I3 : Inv X pins σ (upd H2 D (SetSO X.prog X.w D [])) s3 := by
    rw [← hs3]
    refine I2.laid (t' := s2.toks) (fun b o e => Heap.get?_push_of_some _ e) (Nat.le_of_eq hD) ?_
    rw [← hD]
    exact setSO_new (fresh_set X.prog X.w)
  have lt2 : ∀ b ∈ fp, b < s2.heap.objs.size := fun b hb => by
    obtain ⟨o, e, _⟩ := T.obj _ _ st2 b hb
    exact Heap.lt_size e
  have f3 : ∀ b ∈ fp, FpOk X pins (upd H2 D (SetSO X.prog X.w D [])) b ∧ b < s3.heap.objs.size := fun b hb => by
    refine ⟨⟨?_, (f2 b hb).2⟩, by rw [h3, Heap.size_push]; exact Nat.lt_succ_of_lt (lt2 b hb)⟩
    rw [upd_ne (by rw [← hD]; exact Nat.ne_of_lt (lt2 b hb))]
    exact (f2 b hb).1
  have st3 : tn 0 s3.heap := T.keep _ _ _ st2 fun b _ o e => by rw [h3]; exact Heap.get?_push_of_some _ e
  have I4 := block_start I3 ok hN f3
  generalize hce : compEnvC scope (cellsFrom (s3.heap.objs.size + 1) scope.names (cloFrom X.env.cells scope.names [])) s3.heap.objs.size X.env = ce at I4
  have cL : ce.locals = s3.heap.objs.size := by subst hce; rfl
  generalize hH3 : upd H2 D (SetSO X.prog X.w D []) = H3 at I3 I4 w0 f3
  have pg : PG (X.blk s3 H3 scope ce fp) tg g := hce ▸ hg s3 H3 _ _ fp
  have pt : PTs (X.blk s3 H3 scope ce fp) ifs tt := hce ▸ ht s3 H3 _ _ fp
  have pe : PE (X.blk s3 H3 scope ce fp) elt te := hce ▸ he s3 H3 _ _ fp
  show codeAny _ _ (.compStart (.SetComp elt [⟨tg, iter, ifs, 0⟩] scope pos) 0 (.ref it) (.ref D) (compEnvC scope (cellsFrom (s3.heap.objs.size + 1) scope.names (cloFrom X.env.cells scope.names [])) s3.heap.objs.size X.env)) _ { s3 with heap := pushCells (s3.heap.push { cls := .type "dict", data := .dict #[] }) scope.names }
  rw [hce]
  generalize hs4 : ({ s3 with heap := pushCells (s3.heap.push { cls := .type "dict", data := .dict #[] }) scope.names } : Shared) = s4 at I4 ⊢
  have st4 : tn 0 s4.heap := T.keep _ _ _ st3 fun b _ o e => by rw [← hs4]; exact pushCells_keeps _ _ _ _ (Heap.get?_push_of_some _ e)
  have stat : ∀ {σ' : L2.St} {H' : Hp} {s' : Shared}, Inv (X.blk s3 H3 scope ce fp) [] σ' H' s' → (∀ b ∈ fp, H' b = none) → ∀ b ∈ fp, FpOk (X.blk s3 H3 scope ce fp) [] H' b := fun {σ' H' s'} I' hn b hb =>
    ⟨hn b hb, (I'.ok.exf b hb).1, I'.ok.exfs b hb, .inl hb, fun x c e => (I'.ok.exf b hb).2 x c e, fun p hp => absurd (show p ∈ ([] : List (Addr × Obj)) ++ [] from hp) (by simp)⟩
  refine codeAny_compStart_set ?loop (T.self X.A 0 _ _ _ st4 ?loop)
  refine compLoopS_any (fun n s' => ∃ i H', Inv (X.blk s3 H3 scope ce fp) [] (wipe σ (own.map (·.2))) H' s' ∧ tn i s'.heap ∧ (∀ b ∈ fp, H' b = none) ∧ W i n H') ?_ m0 ⟨0, H3, I4, st4, fun b hb => (f3 b hb).1.1, w0⟩
  rintro n s5 ⟨i, H5, I5, st5, n5, w5⟩
  rcases turn i n H5 w5 with ⟨stop, qq⟩ | ⟨go, Nx, hNx, step⟩
  · refine thnF (T.done (X.blk s3 H3 scope ce fp) rfl rfl rfl hc i [] s5 _ H5 (fun _ _ => False) I5 (stat I5 n5) st5 stop) fun r s6 ⟨hr, I6⟩ => ?_
    subst hr
    have I7 : Inv X pins σ H5 s6 := I3.call' (ch := fp) I6.os I6.base I6.hok I6.bare fun b hb => ⟨(f3 b hb).1.2.2.2.1, (f3 b hb).1.2.1, (f3 b hb).1.2.2.2.2.1, (f3 b hb).1.2.2.2.2.2⟩
    have nC : H5 s3.heap.objs.size = none := by
      have z : H5 ce.locals = none := I6.free
      rwa [cL] at z
    obtain ⟨m, hn, _⟩ := I6.loc
    have hn : s6.heap.Ns ce.locals m := hn
    rw [cL] at hn
    obtain ⟨a0, a1, a2, a3, a4, a5⟩ := I3.fpOk (Nat.le_refl _) nC
    exact ⟨m, hn, fun h'' sb => ⟨.ref D, H5, I7.turned (t' := s6.toks) (fun b o hb e => (sb.2 b hb).trans e) a0 a1 a3 a4 a5, rfl, qq⟩⟩
  · refine thnF (T.item (X.blk s3 H3 scope ce fp) rfl rfl rfl hc i [] s5 _ H5 (fun _ _ => False) I5 (stat I5 n5) st5 go) fun r s6 ⟨u, hr, h6⟩ => ?_
    subst hr
    refine thnF h6 fun _ s7 ⟨x, H7, I7, r7, y7, st7, n7⟩ => ?_
    refine thnF (pg.run _ s7 _ H7 x u _ (I7.pinned (stat I7 n7) (T.obj _ _ st7)) r7 (step x H7 y7)) fun _ s8 ⟨σ8, H8, I8, hw8, q8⟩ => ?_
    refine thnF (pt.run _ s8 σ8 H8 _ I8 q8) fun b s9 ⟨H9, I9, q9⟩ => ?_
    have fin : ∀ {s' : Shared} {H' : Hp}, Inv (X.blk s3 H3 scope ce fp) ([] ++ pinsAt fp s7.heap) σ8 H' s' → Nx H' → ∃ m, m < n ∧ ∃ i H', Inv (X.blk s3 H3 scope ce fp) [] (wipe σ (own.map (·.2))) H' s' ∧ tn i s'.heap ∧ (∀ b ∈ fp, H' b = none) ∧ W i m H' := fun {s' H'} I' nx => by
      obtain ⟨m', hm, w'⟩ := hNx H' nx
      have pin' : ∀ b ∈ fp, ∀ o, s7.heap.get? b = some o → s'.heap.get? b = some o ∧ H' b = none := fun b hb o e =>
        let z := I'.pin (b, o) (List.mem_append_right _ (List.mem_append_right _ (mem_pinsAt hb e)))
        ⟨z.1, z.2.1⟩
      have hl : (wipe σ (own.map (·.2))).length = σ8.length := by rw [← hw8, wipe_length]
      refine ⟨m', hm, i + 1, H', (I'.unpinned (pins := [])).weak hl (fun j v e => ?_), T.keep _ _ _ st7 fun b hb o e => (pin' b hb o e).1, fun b hb => ?_, w'⟩
      · rw [← hw8] at e
        exact (wipe_some e).1
      · obtain ⟨o, e, _⟩ := T.obj _ _ st7 b hb
        exact (pin' b hb o e).2
    cases b with
    | false =>
      simp only [Bool.false_eq_true, if_false] at q9 ⊢
      exact fin I9 q9
    | true =>
      simp only [if_true] at q9 ⊢
      refine thnF (pe.run _ s9 σ8 H9 _ I9 q9) fun v s10 ⟨yv, H10, I10, r10, z, zs, ey, hD10, room, nx⟩ => ?_
      subst ey
      obtain ⟨tk, rfl⟩ := r10
      exact add_ok (X := X.blk s3 H3 scope ce fp) I10 hD10 room fun s11 I11 => fin I11 nx
/-- over a walk -/
theorem sc_it {P : Program} {w : World} {J : It} {n : Nat} {G : Hp → Prop} {Y : Nat → Hp → V → Hp → Prop} (wk : Walk J n G Y) {g : TG} {tt : TT} {te : TE} {vs : List Nat} {σ : L2.St} {H1 : Hp} {D : Addr} {Qd : Hp → Prop} (Pv : Nat → Hp → Prop) (h0 : Pv 0 (upd H1 D (SetSO P w D []))) (hG : ∀ i H, i ≤ n → Pv i H → G H)
    (hs : ∀ i x H H', i < n → Pv i H → Y i H x H' → g x (wipe σ vs) H' fun σ2 H2 => wipe σ2 vs = wipe σ vs ∧ tt σ2 H2 fun b H3 =>
      if b = true then te σ2 H3 fun y H4 => ∃ (z : Str) (zs : List Str), y = .str z ∧ H4 D = some (SetSO P w D zs) ∧ zs.length + 1 < scanBound ∧ Pv (i + 1) (upd H4 D (SetSO P w D (more zs z))) else Pv (i + 1) H3) (hd : ∀ H, Pv n H → Qd H) :
    ∃ W : Nat → Nat → Hp → Prop, (∃ m, W 0 m (upd H1 D (SetSO P w D []))) ∧ ∀ i m H, W i m H →
      (J.stop i H ∧ Qd H) ∨ (J.go i H ∧ ∃ Nx : Hp → Prop, (∀ H', Nx H' → ∃ m', m' < m ∧ W (i + 1) m' H') ∧ ∀ x H', J.yld i H x H' → g x (wipe σ vs) H' fun σ2 H2 => wipe σ2 vs = wipe σ vs ∧ tt σ2 H2 fun b H3 =>
        if b = true then te σ2 H3 fun y H4 => ∃ (z : Str) (zs : List Str), y = .str z ∧ H4 D = some (SetSO P w D zs) ∧ zs.length + 1 < scanBound ∧ Nx (upd H4 D (SetSO P w D (more zs z))) else Nx H3) := by
  refine ⟨fun i m H => m = n - i ∧ i ≤ n ∧ Pv i H, ⟨n, by simp, Nat.zero_le _, h0⟩, ?_⟩
  rintro i m H ⟨rfl, hi, p⟩
  have q := hG i H hi p
  by_cases hlt : i < n
  · exact .inr ⟨wk.goes i H hlt q, Pv (i + 1), fun H' p' => ⟨n - (i + 1), by omega, rfl, hlt, p'⟩, fun x H' y => hs i x H H' hlt p (wk.yields i H x H' hlt q y)⟩
  · have e : i = n := by omega
    subst e
    exact .inl ⟨wk.stops H q, hd H p⟩
/-- sorted of a set of texts: its texts, each once, in some order -/
def rSortS (P : Program) (w : World) : List V → Hp → VK → Prop := fun vs H Q => ∃ (a : Addr) (zs : List Str), vs = [V.ref a] ∧ H a = some (SetSO P w a zs) ∧ ∀ (ys : List Str) (p : Addr), ys.Perm zs → H p = none → Q (.ref p) (upd H p (.lst (ys.map V.str)))
theorem cr_sortS (hc : X.calm = true) (hu : X.A.units + 64 < cLine) : CallR X (.builtin "sorted") (rSortS X.prog X.w) := by
  intro pins s σ H vs us Q I r h
  obtain ⟨a, zs, rfl, ha, q⟩ := h
  obtain ⟨o, es, ep, t, ho, hex, hd, g, pm, nd, hb, hf, hr, hl⟩ := setSO_get I ha
  rw [Vals.ref1 r]
  refine Calls.call_function_entry kind_sorted plain_sorted entry_sorted (args_sorted1 _) ?_
  unfold Builtin.«sorted»
  refine wpAny_bind (m := checkCount "sorted" 1 1 _) (wpAny_pure ?_)
  refine wpAny_bind (collect_set (A := X.A.in1) (I.ok.hd hc) ⟨o, ho, hex.1, hd⟩ hf hb hr hl fun s1 us k1 hz g1 o1 pe => ?_)
  -- the texts as they come
  have tx : ∀ {us : List Value}, (∀ v ∈ us, ∃ z t, v = Value.str z t) → ∃ ys : List Str, Vals (ys.map V.str) us ∧ us.map (fun v => txtOf (0, v)) = ys := by
    intro us
    induction us with
    | nil => exact fun _ => ⟨[], .nil, rfl⟩
    | cons v us ih =>
      intro h
      obtain ⟨z, t, rfl⟩ := h v List.mem_cons_self
      obtain ⟨ys, h1, h2⟩ := ih fun u hu => h u (List.mem_cons_of_mem _ hu)
      exact ⟨z :: ys, .cons ⟨t, rfl⟩ h1, by rw [List.map_cons, h2]; rfl⟩
  obtain ⟨ys, r1, e1⟩ := tx (us := us) fun v hv => by
    obtain ⟨e, he, rfl⟩ := List.mem_map.mp (pe.mem_iff.mp hv)
    obtain ⟨z, t, h1, _⟩ := g e he
    exact ⟨z, t, h1⟩
  have p1 : ys.Perm zs := by
    rw [← e1]
    refine (pe.map _).trans ?_
    rw [List.map_map]
    exact pm
  have lz : us.length ≤ sizeLine := by
    rw [pe.length_eq, List.length_map, Array.length_toList]
    exact fits_of_scanBound hb
  refine wpAny_bind (wpAny_newList ?_ lz)
  have hoL : (s1.heap.push (seqObj "list" us.toArray 0)).get? s1.heap.objs.size = some (seqObj "list" us.toArray 0) := Heap.get?_push_size _ rfl
  have ev : ∀ {ys : List Str} {us : List Value}, Vals (ys.map V.str) us → EachIs (fun (v : Value) (z : Str) => RelV (.str z) v) us ys := by
    intro ys
    induction ys with
    | nil => intro us r; cases r; exact .nil
    | cons z ys ih => intro us r; cases r with | cons r t => exact .cons r (ih t)
  have ve : ∀ {us : List Value} {ys : List Str}, EachIs (fun (v : Value) (z : Str) => RelV (.str z) v) us ys → Vals (ys.map V.str) us := by
    intro us ys e
    induction e with
    | nil => exact .nil
    | cons r t ih => exact .cons r ih
  refine wpAny_bind (wpAny_holding (list_sort_data (s := { s1 with heap := s1.heap.push (seqObj "list" us.toArray 0) }) (enc := PyData.str) hoL (ev r1) ((ev r1).mono fun v z r => ?_) ?_ ?_ (by rw [← (ev r1).length]; exact lz) (fun z hz => ?_) fun out lo eo => ?_))
  · obtain ⟨t, rfl⟩ := r
    exact ⟨[], Reads.str .., fun h => nomatch h⟩
  · intro d hd d' hd'
    obtain ⟨z, _, rfl⟩ := List.mem_map.mp hd
    obtain ⟨z', _, rfl⟩ := List.mem_map.mp hd'
    rfl
  · refine .inr fun d hd => ?_
    obtain ⟨z, _, rfl⟩ := List.mem_map.mp hd
    exact ⟨(fun h => by cases h), (fun xs h => by cases h)⟩
  · show X.A.units + 1 + 1 + 0 < cLine
    omega
  obtain ⟨c, at1⟩ := sortedHeap_at (vs := us) (out := out.toArray) hoL
  have keep : ∀ b u, s.heap.get? b = some u → (sortedHeap (s1.heap.push (seqObj "list" us.toArray 0)) s1.heap.objs.size us out.toArray).get? b = some u := fun b u e => by
    have q := k1 b u e
    have hlt := Heap.lt_size q
    rw [sortedHeap_old (Nat.ne_of_lt hlt) (by rw [size_push']; exact Nat.lt_succ_of_lt hlt)]
    exact Heap.get?_push_of_some _ q
  have pp : (ys.mergeSort (dataLe false PyData.str)).Perm zs := (List.mergeSort_perm _ _).trans p1
  have hn : H s1.heap.objs.size = none := I.hok.fresh hz
  have hlen : ((ys.mergeSort (dataLe false PyData.str)).map V.str).length ≤ sizeLine := by
    rw [List.length_map, List.length_mergeSort, ← (ev r1).length]
    exact lz
  have J : Inv X pins σ (upd H s1.heap.objs.size (.lst ((ys.mergeSort (dataLe false PyData.str)).map V.str))) { s with heap := sortedHeap (s1.heap.push (seqObj "list" us.toArray 0)) s1.heap.objs.size us out.toArray, gens := s1.gens, drawn := s1.drawn, toks := s1.toks } :=
    I.call (ch := []) (Un.laid keep hz hn) (I.hok.laid keep hz ⟨hlen, out, c, ve eo, at1⟩) (by rw [g1]; exact I.bare) (fun _ z => nomatch z)
  refine wpAny_pure ⟨_, rfl, ?_⟩
  have e : ({ s1 with heap := sortedHeap (s1.heap.push (seqObj "list" us.toArray 0)) s1.heap.objs.size us out.toArray } : Shared) = { s with heap := sortedHeap (s1.heap.push (seqObj "list" us.toArray 0)) s1.heap.objs.size us out.toArray, gens := s1.gens, drawn := s1.drawn, toks := s1.toks } := by
    cases s1
    cases s
    cases o1
    rfl
  show ∃ x H', Inv X pins σ H' ({ s1 with heap := sortedHeap (s1.heap.push (seqObj "list" us.toArray 0)) s1.heap.objs.size us out.toArray } : Shared) ∧ _
  rw [e]
  exact ⟨.ref _, _, J, rfl, q _ _ pp hn⟩
end
end SX

/-! whom one may take from: what is told, as lists -/
namespace My
open PySem PySem.Spec PyProof.Rows L2 GX GxR
def dueOf : List (Str × List Int) → Str → List Int
  | [], _ => []
  | kv :: kvs, g => if kv.1 = g then kv.2 else dueOf kvs g
theorem dueOf_eq {g : Str} {dn : List Int} : ∀ {kvs : List (Str × List Int)}, (kvs.map (·.1)).Nodup → (g, dn) ∈ kvs → dueOf kvs g = dn
  | [], _, h => nomatch h
  | kv :: kvs, nd, h => by
    rw [List.map_cons, List.nodup_cons] at nd
    unfold dueOf
    rcases List.mem_cons.mp h with z | z
    · rw [← z, if_pos rfl]
    · rw [if_neg fun e => nd.1 (List.mem_map.mpr ⟨_, z, e.symm⟩)]
      exact dueOf_eq nd.2 z
def ofG (Rs : List (Gang × Int)) (g : Str) : List (Gang × Int) := Rs.filter fun R => decide (R.1.guild = g)
def lentOfG (kvs : List (Str × List Int)) (Rs : List (Gang × Int)) (g : Str) : List Str := (partRs (dueOf kvs g) (ofG Rs g)).2.1.map (·.name)
def lentIn (kvs : List (Str × List Int)) (Rs : List (Gang × Int)) (z : Str) : Bool := Rs.any fun R => decide (z ∈ lentOfG kvs Rs R.1.guild)
def gIn (a b c : Bool) : Option Str := if (a && (b || c)) = true then some "rank" else none
def gBey (a b c : Bool) : Option Str := if (b && c) = true then some "share" else if (b && a) = true then some "rank" else none
def oV : Option Str → V
  | some z => .str z
  | none => .non
/-- the ground for the other gang O -/
def groundOf (kvs : List (Str × List Int)) (Rs : List (Gang × Int)) (G O : Gang) : Option Str :=
  if O.guild = G.guild then gIn (decide (O.rank < G.rank)) (lentIn kvs Rs O.name) (ownB (dueOf kvs G.guild) (ofG Rs G.guild) G)
  else gBey (decide (O.rank < G.rank)) (lentIn kvs Rs O.name) (owedB (dueOf kvs G.guild) (ofG Rs G.guild) G)
def pairOf (kvs : List (Str × List Int)) (Rs : List (Gang × Int)) (ns : List Str) (G O : Gang) : List (Str × Str) :=
  match groundOf kvs Rs G O with
  | some z => if O.name ∈ ns then [(O.name, z)] else []
  | none => []
def mayL (kvs : List (Str × List Int)) (Rs : List (Gang × Int)) (ns : List Str) (G : Gang) : List (Str × Str) := ((ord Rs).map (·.1)).reverse.flatMap (pairOf kvs Rs ns G)
def TelAt (H : Hp) (t : Addr) (p : Str × Str) : Prop := H t = some (.tup [.str p.1, .str p.2])
theorem TelAt.kt {H H' : Hp} {t : Addr} {p : Str × Str} (k : KTu H H') (h : TelAt H t p) : TelAt H' t p := k _ _ h
/-- dues and rows as they are handed in -/
structure DR (K : PySem.W.Frag) (H : Hp) (d a : Addr) (wr : Nat) (kvs : List (Str × List Int)) (as : List Addr) (Rs : List (Gang × Int)) : Prop where
  dues : ∃ ps : List (Key × V), Rd H d (.dK ps) ∧ Paired (DueAt H) ps kvs
  keys : (kvs.map (·.1)).Nodup
  len : ∀ kv ∈ kvs, kv.2.length = wr
  w1 : 1 ≤ wr
  w8 : wr ≤ 8
  rows : SqL K H a (as.map V.ref)
  prs : Paired (RowAt H) as Rs
  good : Good2 Rs
  few : Rs.length ≤ 60
  want : ∀ R ∈ Rs, R.1.want.length = wr
  guild : ∀ R ∈ Rs, R.1.guild ∈ kvs.map (·.1)
theorem DR.fw {K : PySem.W.Frag} {Ts : List Addr} {H H' : Hp} {d a : Addr} {wr : Nat} {kvs : List (Str × List Int)} {as : List Addr} {Rs : List (Gang × Int)} (t : Tabs Ts H) (f : Fw Ts H H') (h : DR K H d a wr kvs as Rs) : DR K H' d a wr kvs as Rs := by
  obtain ⟨ps, h1, h2⟩ := h.dues
  refine ⟨⟨ps, ?_, h2.mono fun _ _ x => x.kt (f.kt t)⟩, h.keys, h.len, h.w1, h.w8, f.seqL t h.rows, h.prs.mono fun _ _ x => x.kt (f.kt t), h.good, h.few, h.want, h.guild⟩
  rcases h1 with e | ⟨od, e⟩
  · exact .inl (f.obj t e fun pp z => by cases z)
  · exact .inr ⟨od, f.obj t e fun pp z => by cases z⟩
theorem DR.get {K : PySem.W.Frag} {H : Hp} {d a : Addr} {wr : Nat} {kvs : List (Str × List Int)} {as : List Addr} {Rs : List (Gang × Int)} (h : DR K H d a wr kvs as Rs) {g : Str} (hg : g ∈ kvs.map (·.1)) :
    ∃ av, DGet H d (.str g) (some (.ref av)) ∧ H av = some (.tup ((dueOf kvs g).map V.int)) ∧ (dueOf kvs g).length = wr := by
  obtain ⟨ps, h1, h2⟩ := h.dues
  obtain ⟨av, dn, vv, mkv, ea⟩ := valV_due h2 h.keys hg
  have e := dueOf_eq h.keys mkv
  refine ⟨av, dgetR h1 vv, ?_, ?_⟩
  · rw [e]
    exact ea
  · rw [e]
    exact h.len _ mkv
def spGOf : Sp := fun vs H Q _ => ∃ (g : Addr) (G : Gang), vs = [.ref g] ∧ GangAt H g G ∧ Q (.str G.guild) H
def spGr (f : Bool → Bool → Bool → Option Str) : Sp := fun vs H Q _ => ∃ a b c : Bool, vs = [.bl a, .bl b, .bl c] ∧ Q (oV (f a b c)) H
def spLent (K : PySem.W.Frag) (Ts : List Addr) : Sp := fun vs H Q _ => ∃ (d a : Addr) (wr : Nat) (kvs : List (Str × List Int)) (as : List Addr) (Rs : List (Gang × Int)), vs = [.ref d, .ref a] ∧ DR K H d a wr kvs as Rs ∧ Tabs Ts H ∧
  ∀ p H' (qs : List (Key × V)), Fw Ts H H' → H p = none → H' p = some (.dK qs) → (∀ z : Str, (valV qs (Sum.inr z)).isSome = lentIn kvs Rs z) → Q (.ref p) H'
def spMay (K : PySem.W.Frag) (Ts : List Addr) : Sp := fun vs H Q _ => ∃ (d a n g : Addr) (wr : Nat) (kvs : List (Str × List Int)) (as : List Addr) (Rs : List (Gang × Int)) (ns : List Str) (G : Gang), vs = [.ref d, .ref a, .ref n, .ref g] ∧ DR K H d a wr kvs as Rs ∧ SqL K H n (ns.map V.str) ∧ GangAt H g G ∧ Fit (G, 0) ∧ G.want.length = wr ∧ G.guild ∈ kvs.map (·.1) ∧
  (∀ R ∈ Rs, R.1.name ≠ G.name) ∧ Tabs Ts H ∧ ∀ p H' ts, Fw Ts H H' → H p = none → H' p = some (.lst (ts.map V.ref)) → Paired (TelAt H') ts (mayL kvs Rs ns G) → Q (.ref p) H'
end My

/-! whom one may take from, by the laws' own reckoning -/
namespace My
open PySem PySem.Spec PyProof.Rows L2 GX GxR
def takenOf (kvs : List (Str × List Int)) (Rs : List (Gang × Int)) (G O : Gang) : List (Str × Str) :=
  match groundOf kvs Rs G O with
  | some z => [(O.name, z)]
  | none => []
def takenL (kvs : List (Str × List Int)) (Rs : List (Gang × Int)) (G : Gang) : List (Str × Str) := ((ord Rs).map (·.1)).reverse.flatMap (takenOf kvs Rs G)
theorem filter_flatMap {α β : Type} (p : β → Bool) (f : α → List β) : ∀ xs : List α, (xs.flatMap f).filter p = xs.flatMap fun x => (f x).filter p
  | [] => rfl
  | x :: xs => by
    rw [List.flatMap_cons, List.flatMap_cons, List.filter_append, filter_flatMap p f xs]
theorem may_taken (kvs : List (Str × List Int)) (Rs : List (Gang × Int)) (ns : List Str) (G : Gang) : mayL kvs Rs ns G = (takenL kvs Rs G).filter fun p => decide (p.1 ∈ ns) := by
  unfold mayL takenL
  rw [filter_flatMap]
  congr 1
  funext O
  unfold pairOf takenOf
  cases groundOf kvs Rs G O with
  | none => rfl
  | some z =>
    by_cases h : O.name ∈ ns
    · simp [h]
    · simp [h]
theorem mem_takenL {kvs : List (Str × List Int)} {Rs : List (Gang × Int)} {G : Gang} {p : Str × Str} (h : p ∈ takenL kvs Rs G) : ∃ R ∈ Rs, R.1.name = p.1 ∧ groundOf kvs Rs G R.1 = some p.2 := by
  obtain ⟨O, hO, hp⟩ := List.mem_flatMap.mp h
  obtain ⟨R, hR, rfl⟩ := List.mem_map.mp (List.mem_reverse.mp hO)
  unfold takenOf at hp
  split at hp
  · have := List.mem_singleton.mp hp
    subst this
    exact ⟨R, (ord_perm Rs).mem_iff.mp hR, rfl, by assumption⟩
  · exact (nomatch hp)
theorem may_all {kvs : List (Str × List Int)} {Rs : List (Gang × Int)} {ns : List Str} {G : Gang} (h : ∀ R ∈ Rs, R.1.name ∈ ns) : mayL kvs Rs ns G = takenL kvs Rs G := by
  rw [may_taken, List.filter_eq_self.mpr fun p hp => ?_]
  obtain ⟨R, hR, e, _⟩ := mem_takenL hp
  rw [← e]
  exact decide_eq_true (h R hR)
/-- all names that are lent, guild by guild -/
def lentAll (kvs : List (Str × List Int)) (Rs : List (Gang × Int)) (ks : List (Str × List Int)) : List Str := ks.flatMap fun kv => lentOfG kvs Rs kv.1
theorem lentG_row {kvs : List (Str × List Int)} {Rs : List (Gang × Int)} {g z : Str} (h : z ∈ lentOfG kvs Rs g) : ∃ R ∈ Rs, R.1.guild = g ∧ R.1.name = z := by
  obtain ⟨F, hF, e⟩ := List.mem_map.mp h
  obtain ⟨R, hR, rfl⟩ := partRs_mem (.inr hF)
  obtain ⟨h1, h2⟩ := List.mem_filter.mp hR
  exact ⟨R, h1, of_decide_eq_true h2, e⟩
theorem lentAll_mem {kvs : List (Str × List Int)} {Rs : List (Gang × Int)} (hg : ∀ R ∈ Rs, R.1.guild ∈ kvs.map (·.1)) (z : Str) : decide (z ∈ lentAll kvs Rs kvs) = lentIn kvs Rs z := by
  unfold lentAll lentIn
  cases e : Rs.any fun R => decide (z ∈ lentOfG kvs Rs R.1.guild) with
  | true =>
    obtain ⟨R, hR, h⟩ := List.any_eq_true.mp e
    obtain ⟨kv, hkv, ek⟩ := List.mem_map.mp (hg R hR)
    refine decide_eq_true (List.mem_flatMap.mpr ⟨kv, hkv, ?_⟩)
    rw [ek]
    exact of_decide_eq_true h
  | false =>
    refine decide_eq_false fun q => ?_
    obtain ⟨kv, hkv, h⟩ := List.mem_flatMap.mp q
    obtain ⟨R, hR, h1, h2⟩ := lentG_row h
    have := List.any_eq_false.mp e R hR
    rw [h1] at this
    exact this (decide_eq_true h)
theorem lentG_len (kvs : List (Str × List Int)) (Rs : List (Gang × Int)) (g : Str) : (lentOfG kvs Rs g).length ≤ Rs.length := by
  unfold lentOfG
  rw [List.length_map]
  have h1 := partRs_len (dueOf kvs g) (ofG Rs g)
  have h2 : (ofG Rs g).length ≤ Rs.length := List.length_filter_le _ _
  omega
theorem lentAll_len (kvs : List (Str × List Int)) (Rs : List (Gang × Int)) : ∀ ks : List (Str × List Int), (lentAll kvs Rs ks).length ≤ ks.length * Rs.length
  | [] => by simp [lentAll]
  | kv :: ks => by
    have ih := lentAll_len kvs Rs ks
    have h := lentG_len kvs Rs kv.1
    unfold lentAll at ih ⊢
    rw [List.flatMap_cons, List.length_append, List.length_cons, Nat.succ_mul]
    omega
/-- locked or not, what is read of dues and rows stands -/
theorem DR.same {K : PySem.W.Frag} {H H' : Hp} {d a : Addr} {wr : Nat} {kvs : List (Str × List Int)} {as : List Addr} {Rs : List (Gang × Int)} (s : Same H H') (h : DR K H d a wr kvs as Rs) : DR K H' d a wr kvs as Rs := by
  obtain ⟨ps, h1, h2⟩ := h.dues
  refine ⟨⟨ps, ?_, h2.mono fun _ _ x => x.kt (Same.kt s)⟩, h.keys, h.len, h.w1, h.w8, s.seq h.rows, h.prs.mono fun _ _ x => x.same s, h.good, h.few, h.want, h.guild⟩
  rcases h1 with e | ⟨od, e⟩
  · exact .inl (s _ _ e)
  · exact .inr ⟨od, s _ _ e⟩
def spTaken (K : PySem.W.Frag) : Sp := fun vs H Q _ => ∃ (d a g : Addr) (wr : Nat) (kvs : List (Str × List Int)) (as : List Addr) (Rs : List (Gang × Int)) (G : Gang), vs = [.ref d, .ref a, .ref g] ∧ DR K H d a wr kvs as Rs ∧ (∃ ps : List (Key × V), H d = some (.dK ps)) ∧ H a = some (.lst (as.map V.ref)) ∧ kvs.length ≤ 12 ∧ GangAt H g G ∧ Fit (G, 0) ∧ G.want.length = wr ∧ G.guild ∈ kvs.map (·.1) ∧
  ∀ p H' ts, Same H H' → H p = none → H' p = some (.lst (ts.map V.ref)) → Paired (TelAt H') ts (takenL kvs Rs G) → Q (.ref p) H'
end My

/-! dues, rows and a gang, as the laws hand them in -/
namespace My
open PySem PySem.Spec PyProof.Rows L2 GX GxR
structure RI (K : PySem.W.Frag) (H : Hp) (d a g : Addr) (wr : Nat) (kvs : List (Str × List Int)) (as : List Addr) (Rs : List (Gang × Int)) (G : Gang) : Prop where
  dr : DR K H d a wr kvs as Rs
  dd : ∃ ps : List (Key × V), H d = some (.dK ps)
  la : H a = some (.lst (as.map V.ref))
  l12 : kvs.length ≤ 12
  at_ : GangAt H g G
  fit : Fit (G, 0)
  wl : G.want.length = wr
  gg : G.guild ∈ kvs.map (·.1)
  no : ∀ R ∈ Rs, R.1.name ≠ G.name
theorem RI.fw {K : PySem.W.Frag} {Ts : List Addr} {H H' : Hp} {d a g : Addr} {wr : Nat} {kvs : List (Str × List Int)} {as : List Addr} {Rs : List (Gang × Int)} {G : Gang} (t : Tabs Ts H) (f : Fw Ts H H') (h : RI K H d a g wr kvs as Rs G) : RI K H' d a g wr kvs as Rs G := by
  obtain ⟨ps, hd⟩ := h.dd
  exact ⟨h.dr.fw t f, ⟨ps, f.obj t hd fun pp z => by cases z⟩, f.lst t h.la, h.l12, h.at_.kt (f.kt t), h.fit, h.wl, h.gg, h.no⟩
theorem RI.same {K : PySem.W.Frag} {H H' : Hp} {d a g : Addr} {wr : Nat} {kvs : List (Str × List Int)} {as : List Addr} {Rs : List (Gang × Int)} {G : Gang} (s : Same H H') (h : RI K H d a g wr kvs as Rs G) : RI K H' d a g wr kvs as Rs G := by
  obtain ⟨ps, hd⟩ := h.dd
  exact ⟨h.dr.same s, ⟨ps, s _ _ hd⟩, s _ _ h.la, h.l12, h.at_.same s, h.fit, h.wl, h.gg, h.no⟩
def spRI (K : PySem.W.Frag) (Ts : List Addr) : Sp := fun vs H Q _ => ∃ (d a g : Addr) (wr : Nat) (kvs : List (Str × List Int)) (as : List Addr) (Rs : List (Gang × Int)) (G : Gang), vs = [.ref d, .ref a, .ref g] ∧ RI K H d a g wr kvs as Rs G ∧ Tabs Ts H ∧ ∀ H', Fw Ts H H' → Q (.bl true) H'
theorem prs_tels {H : Hp} {n : Nat} : ∀ {ts us : List Addr} {ps : List (Str × Str)}, Paired (TelAt H) ts ps → Paired (TelAt H) us ps → Prs (Sm H (n + 1)) (ts.map V.ref) (us.map V.ref)
  | _, _, _, .nil, .nil => .nil
  | _, _, _, .cons h t, .cons h' t' => .cons (sm_tup h h' (by show 2 < 100000; decide) (.cons (sm_str _) (.cons (sm_str _) .nil))) (prs_tels t t')
theorem may_len (kvs : List (Str × List Int)) (Rs : List (Gang × Int)) (ns : List Str) (G : Gang) : (mayL kvs Rs ns G).length ≤ Rs.length := by
  have h : ∀ Gs : List Gang, (Gs.flatMap (pairOf kvs Rs ns G)).length ≤ Gs.length := fun Gs => by
    induction Gs with
    | nil => exact Nat.le_refl _
    | cons O Gs ih =>
      rw [List.flatMap_cons, List.length_append, List.length_cons]
      have : (pairOf kvs Rs ns G O).length ≤ 1 := by
        unfold pairOf
        split
        · split
          · exact Nat.le_refl _
          · exact Nat.zero_le _
        · exact Nat.zero_le _
      omega
  have := h ((ord Rs).map (·.1)).reverse
  rw [List.length_reverse, List.length_map, (ord_perm Rs).length_eq] at this
  exact this
end My

/-! the state's dues, rows and gang are fit to be handed in -/
namespace My
open PySem PySem.Spec PyProof.Rows L2 GX GxR
section
variable {K : PySem.W.Frag} {H : Hp} {d r g : Addr} {gs : List Str} {wr : Nat} {kvs : List (Str × List Int)} {Rs : List (Gang × Int)} {G : Gang}
theorem StateAt.kn (St : StateAt H d r g gs wr kvs Rs G) : (kvs.map (·.1)).Nodup := by
  rw [St.keys]
  exact St.gsok.nd
theorem StateAt.good (St : StateAt H d r g gs wr kvs Rs G) : Good2 Rs := good_state St.gsok St.w8 St.rok
theorem StateAt.l12 (St : StateAt H d r g gs wr kvs Rs G) : kvs.length ≤ 12 := by
  have := St.gsok.l12
  rw [← St.keys, List.length_map] at this
  exact this
theorem StateAt.fitG (St : StateAt H d r g gs wr kvs Rs G) : Fit (G, 0) := by
  refine fit_of St.gok St.gsok St.w8 ?_
  have : ∀ z ∈ (["z", "aaaaaaa", "zed"] : List Str), PySem.PyData.strOk z = true := by decide +kernel
  exact this _ St.gname
theorem StateAt.row (St : StateAt H d r g gs wr kvs Rs G) {R : Gang × Int} (h : R ∈ Rs) : GangOk gs wr R.1 := by
  obtain ⟨i, hi⟩ := List.mem_iff_getElem?.mp h
  exact (St.rok.2 i R hi).ok
theorem StateAt.no (St : StateAt H d r g gs wr kvs Rs G) : ∀ R ∈ Rs, R.1.name ≠ G.name := fun R hR z => by
  obtain ⟨i, hi⟩ := List.mem_iff_getElem?.mp hR
  have hi' : i < Rs.length := (List.getElem?_eq_some_iff.mp hi).1
  have lR := St.rok.1
  have nn := (St.rok.2 i R hi).name
  have off := (names_ok1.2 _ (rowName_mem (i := i) (by omega))).2.2
  rw [← nn, z] at off
  exact absurd St.gname off
theorem StateAt.same {H' : Hp} (St : StateAt H d r g gs wr kvs Rs G) (s : Same H H') : StateAt H' d r g gs wr kvs Rs G :=
  ⟨St.gsok, St.w1, St.w8, St.dues.kt (Same.kt s) (fun o h => s _ _ h), St.keys, St.amts, St.rows.kt (Same.kt s) (fun o h => s _ _ h), St.rok, St.gang.same s, St.gok, St.gname⟩
theorem StateAt.fw {Ts : List Addr} {H' : Hp} (St : StateAt H d r g gs wr kvs Rs G) (t : Tabs Ts H) (f : Fw Ts H H') : StateAt H' d r g gs wr kvs Rs G := by
  obtain ⟨ps, h1, h2⟩ := St.dues
  obtain ⟨as, h3, h4⟩ := St.rows
  exact ⟨St.gsok, St.w1, St.w8, ⟨ps, f.obj t h1 (fun pp z => by cases z), h2.mono fun _ _ x => x.kt (f.kt t)⟩, St.keys, St.amts, ⟨as, f.lst t h3, h4.mono fun _ _ x => x.kt (f.kt t)⟩, St.rok, St.gang.kt (f.kt t), St.gok, St.gname⟩
/-- rows of the state, in a list of their own, and a gang beside them -/
theorem StateAt.dr (St : StateAt H d r g gs wr kvs Rs G) {a : Addr} {bs : List Addr} {Ss : List (Gang × Int)} (ha : H a = some (.lst (bs.map V.ref))) (hp : Paired (RowAt H) bs Ss) (hs : ∀ R ∈ Ss, R ∈ Rs) (good : Good2 Ss) (few : Ss.length ≤ 60) : DR K H d a wr kvs bs Ss := by
  obtain ⟨ps, h1, h2⟩ := St.dues
  refine ⟨⟨ps, .inl h1, h2⟩, St.kn, fun kv h => (St.amts kv h).2, St.w1, St.w8, SqL.of ha, hp, good, few, fun R hR => (St.row (hs R hR)).wlen, fun R hR => ?_⟩
  rw [St.keys]
  exact (St.row (hs R hR)).guild
theorem StateAt.ri (St : StateAt H d r g gs wr kvs Rs G) {a : Addr} {bs : List Addr} {Ss : List (Gang × Int)} (ha : H a = some (.lst (bs.map V.ref))) (hp : Paired (RowAt H) bs Ss) (hs : ∀ R ∈ Ss, R ∈ Rs) (good : Good2 Ss) (few : Ss.length ≤ 60) : RI K H d a g wr kvs bs Ss G := by
  obtain ⟨ps, h1, h2⟩ := St.dues
  refine ⟨St.dr ha hp hs good few, ⟨ps, h1⟩, ha, St.l12, St.gang, St.fitG, St.gok.wlen, ?_, fun R hR => St.no R (hs R hR)⟩
  rw [St.keys]
  exact St.gok.guild
/-- one of the rows' own gangs beside the others -/
theorem StateAt.ri1 (St : StateAt H d r g gs wr kvs Rs G) {a o : Addr} {bs : List Addr} {Ss : List (Gang × Int)} {O : Gang × Int} (hO : O ∈ Rs) (hg : GangAt H o O.1) (no : ∀ R ∈ Ss, R.1.name ≠ O.1.name) (ha : H a = some (.lst (bs.map V.ref))) (hp : Paired (RowAt H) bs Ss) (hs : ∀ R ∈ Ss, R ∈ Rs) (good : Good2 Ss) (few : Ss.length ≤ 60) : RI K H d a o wr kvs bs Ss O.1 := by
  obtain ⟨ps, h1, h2⟩ := St.dues
  have ft := St.good.fit O hO
  refine ⟨St.dr ha hp hs good few, ⟨ps, h1⟩, ha, St.l12, hg, ⟨ft.name, ft.guild, ft.how, ft.wlen, ft.amt, ft.m0, ft.m60⟩, (St.row hO).wlen, ?_, no⟩
  rw [St.keys]
  exact (St.row hO).guild
end
/-! rows turned about -/
theorem paired_app {α β : Type} {R : α → β → Prop} : ∀ {xs : List α} {ys : List β} {us : List α} {vs : List β}, Paired R xs ys → Paired R us vs → Paired R (xs ++ us) (ys ++ vs)
  | _, _, _, _, .nil, h => h
  | _, _, _, _, .cons r t, h => .cons r (paired_app t h)
theorem paired_drop {α β : Type} {R : α → β → Prop} : ∀ {xs : List α} {ys : List β}, Paired R xs ys → ∀ m, Paired R (xs.drop m) (ys.drop m)
  | _, _, .nil, m => by
    rw [List.drop_nil, List.drop_nil]
    exact .nil
  | _, _, .cons h t, 0 => .cons h t
  | _, _, .cons h t, m + 1 => paired_drop t m
theorem rot_perm {α : Type} (xs : List α) (m : Nat) : (xs.drop m ++ xs.take m).Perm xs := by
  have h := List.perm_append_comm (l₁ := xs.drop m) (l₂ := xs.take m)
  rw [List.take_append_drop] at h
  exact h
/-- a box that is asked is no other thing's business -/
theorem Fw.box {Ts : List Addr} {H H1 H2 : Hp} {b : Addr} (t : Tabs Ts H) (f : Fw Ts H H1) (n : H b = none) (k : Kp [b] H1 H2) : Fw Ts H H2 := by
  refine ⟨fun x o nx e => k x o (fun z => ?_) (f.kp x o nx e), fun T hT => ?_⟩
  · rw [List.mem_singleton.mp z, n] at e
    cases e
  · refine TabG.kp k (fun z => ?_) (f.tabs T hT)
    obtain ⟨ps, h1, _⟩ := t T hT
    rw [List.mem_singleton.mp z, n] at h1
    cases h1
theorem duePut_mem {kvs : List (Str × List Int)} {g : Str} {ns : List Int} {kv : Str × List Int} (h : kv ∈ duePut kvs g ns) : kv ∈ kvs ∨ kv.2 = ns := by
  obtain ⟨x, hx, e⟩ := List.mem_map.mp h
  split at e
  · exact .inr (by rw [← e])
  · exact .inl (by rw [← e]; exact hx)
end My

/-! what is left when all that may be taken are away -/
namespace My
open PySem PySem.Spec PyProof.Rows L2 GX GxR
def goneL (kvs : List (Str × List Int)) (Rs : List (Gang × Int)) (G : Gang) : List Str := (takenL kvs Rs G).map (·.1)
def leftL (kvs : List (Str × List Int)) (Rs : List (Gang × Int)) (G : Gang) : List (Gang × Int) := Rs.filter fun R => !decide (R.1.name ∈ goneL kvs Rs G)
def stays (kvs : List (Str × List Int)) (Rs : List (Gang × Int)) (G F : Gang) : Bool := (groundOf kvs Rs G F).isNone
section
variable {kvs : List (Str × List Int)} {Rs : List (Gang × Int)} {G : Gang}
theorem gone_iff (nd : (Rs.map (·.1.name)).Nodup) {R : Gang × Int} (hR : R ∈ Rs) : (!decide (R.1.name ∈ goneL kvs Rs G)) = stays kvs Rs G R.1 := by
  unfold stays
  cases e : groundOf kvs Rs G R.1 with
  | none =>
    have : R.1.name ∉ goneL kvs Rs G := fun h => by
      obtain ⟨p, hp, ep⟩ := List.mem_map.mp h
      obtain ⟨S, hS, e1, e2⟩ := mem_takenL hp
      have := nodup_inj nd S hS R hR (e1.trans ep)
      rw [this, e] at e2
      cases e2
    rw [decide_eq_false this]
    rfl
  | some z =>
    have : R.1.name ∈ goneL kvs Rs G := by
      refine List.mem_map.mpr ⟨(R.1.name, z), List.mem_flatMap.mpr ⟨R.1, ?_, ?_⟩, rfl⟩
      · exact List.mem_reverse.mpr (List.mem_map.mpr ⟨R, (ord_perm Rs).mem_iff.mpr hR, rfl⟩)
      · unfold takenOf
        rw [e]
        exact List.mem_singleton.mpr rfl
    rw [decide_eq_true this]
    rfl
theorem left_eq (nd : (Rs.map (·.1.name)).Nodup) : leftL kvs Rs G = Rs.filter fun R => stays kvs Rs G R.1 := List.filter_congr fun R hR => gone_iff nd hR
theorem left_guild (nd : (Rs.map (·.1.name)).Nodup) (g : Str) : ofG (leftL kvs Rs G) g = (ofG Rs g).filter fun R => stays kvs Rs G R.1 := by
  rw [left_eq nd]
  unfold ofG
  rw [List.filter_filter, List.filter_filter]
  exact List.filter_congr fun R _ => Bool.and_comm _ _
end
/-- the gangs of a guild, in order -/
def gsOf (Rs : List (Gang × Int)) (g : Str) : List Gang := (ord (ofG Rs g)).map (·.1)
theorem filter_map_fst (p : Gang → Bool) : ∀ xs : List (Gang × Int), (xs.filter fun R => p R.1).map (·.1) = (xs.map (·.1)).filter p
  | [] => rfl
  | x :: xs => by
    rw [List.map_cons]
    by_cases h : p x.1 = true
    · rw [List.filter_cons_of_pos (p := fun R : Gang × Int => p R.1) h, List.filter_cons_of_pos h, List.map_cons, filter_map_fst p xs]
    · rw [List.filter_cons_of_neg (p := fun R : Gang × Int => p R.1) h, List.filter_cons_of_neg h, filter_map_fst p xs]
theorem part_filter {dn : List Int} {p : Gang → Bool} : ∀ {Gs : List Gang} {ld : List Int}, (∀ F ∈ ownOf dn Gs ld, p F = true) →
    ownOf dn (Gs.filter p) ld = ownOf dn Gs ld ∧ lentOf dn (Gs.filter p) ld = (lentOf dn Gs ld).filter p ∧ loadOf dn (Gs.filter p) ld = loadOf dn Gs ld
  | [], _, _ => ⟨rfl, rfl, rfl⟩
  | F :: Gs, ld, h => by
    by_cases hf : fitB (addL ld F.whole) dn = true
    · have e : ownOf dn (F :: Gs) ld = F :: ownOf dn Gs (addL ld F.whole) := by
        show (if _ then _ else _) = _
        rw [if_pos hf]
      rw [e] at h
      obtain ⟨h1, h2, h3⟩ := part_filter (Gs := Gs) (ld := addL ld F.whole) fun K hK => h K (List.mem_cons_of_mem _ hK)
      rw [List.filter_cons_of_pos (h F List.mem_cons_self)]
      simp only [ownOf, lentOf, loadOf, if_pos hf, h1, h2, h3, true_and]
    · have e : ownOf dn (F :: Gs) ld = ownOf dn Gs ld := by
        show (if _ then _ else _) = _
        rw [if_neg hf]
      rw [e] at h
      obtain ⟨h1, h2, h3⟩ := part_filter (Gs := Gs) (ld := ld) h
      by_cases hp : p F = true
      · rw [List.filter_cons_of_pos hp]
        simp only [ownOf, lentOf, loadOf, if_neg hf, h1, h2, h3, List.filter_cons_of_pos hp, true_and]
      · rw [List.filter_cons_of_neg hp]
        simp only [ownOf, lentOf, loadOf, if_neg hf, h1, h2, h3, List.filter_cons_of_neg hp, true_and]
section
variable {kvs : List (Str × List Int)} {Rs : List (Gang × Int)} {G : Gang}
theorem part_left (g2 : Good2 Rs) (g : Str) (dn : List Int) : partRs dn (ofG (leftL kvs Rs G) g) = (ownOf dn ((gsOf Rs g).filter (stays kvs Rs G)) (zeros dn.length), lentOf dn ((gsOf Rs g).filter (stays kvs Rs G)) (zeros dn.length), loadOf dn ((gsOf Rs g).filter (stays kvs Rs G)) (zeros dn.length)) := by
  have nd : ((ofG Rs g).map (·.2)).Nodup := (List.Sublist.map (·.2) (List.filter_sublist (p := fun R : Gang × Int => decide (R.1.guild = g)) (l := Rs))).nodup g2.nums
  rw [partRs_eq, left_guild g2.names, ord_filter nd, filter_map_fst]
  rfl
theorem gs_nodup (g2 : Good2 Rs) (g : Str) : (nm (gsOf Rs g)).Nodup := by
  have h : (nm (gsOf Rs g)).Perm ((ofG Rs g).map (·.1.name)) := by
    unfold nm gsOf
    rw [List.map_map]
    exact (ord_perm (ofG Rs g)).map _
  exact h.nodup_iff.mpr ((List.Sublist.map (·.1.name) (List.filter_sublist (p := fun R : Gang × Int => decide (R.1.guild = g)) (l := Rs))).nodup g2.names)
theorem gs_row {g : Str} {F : Gang} (h : F ∈ gsOf Rs g) : ∃ R ∈ Rs, R.1 = F ∧ F.guild = g := by
  obtain ⟨R, hR, e⟩ := List.mem_map.mp h
  obtain ⟨h1, h2⟩ := List.mem_filter.mp ((ord_perm _).mem_iff.mp hR)
  exact ⟨R, h1, e, by rw [← e]; exact of_decide_eq_true h2⟩
theorem lentG_eq (g : Str) : lentOfG kvs Rs g = nm (lentOf (dueOf kvs g) (gsOf Rs g) (zeros (dueOf kvs g).length)) := by
  unfold lentOfG
  rw [partRs_eq]
  rfl
/-- a lent one is lent, an own one isn't -/
theorem lent_in {g : Str} {F : Gang} (h : F ∈ lentOf (dueOf kvs g) (gsOf Rs g) (zeros (dueOf kvs g).length)) : lentIn kvs Rs F.name = true := by
  obtain ⟨R, hR, e, eg⟩ := gs_row ((lent_sub _ _ _).subset h)
  refine List.any_eq_true.mpr ⟨R, hR, decide_eq_true ?_⟩
  rw [e, eg, lentG_eq]
  exact List.mem_map.mpr ⟨F, h, rfl⟩
theorem own_not (g2 : Good2 Rs) {g : Str} {F : Gang} (h : F ∈ ownOf (dueOf kvs g) (gsOf Rs g) (zeros (dueOf kvs g).length)) : lentIn kvs Rs F.name = false := by
  obtain ⟨R, hR, e, eg⟩ := gs_row ((own_sub _ _ _).subset h)
  cases hl : lentIn kvs Rs F.name with
  | false => rfl
  | true =>
    obtain ⟨S, hS, hz⟩ := List.any_eq_true.mp hl
    have hz := of_decide_eq_true hz
    obtain ⟨S', hS', e1, e2⟩ := lentG_row hz
    have : S' = R := nodup_inj g2.names S' hS' R hR (by show S'.1.name = R.1.name; rw [e2, e])
    rw [this, e, eg] at e1
    rw [← e1, lentG_eq] at hz
    have hf := (filt_own (dn := dueOf kvs g) (ld := zeros (dueOf kvs g).length) (gs_nodup g2 g)).2
    rw [← hf] at hz
    have := (List.mem_filter.mp hz).2
    rw [decide_eq_true (show F.name ∈ nm (ownOf (dueOf kvs g) (gsOf Rs g) (zeros (dueOf kvs g).length)) from List.mem_map.mpr ⟨F, h, rfl⟩)] at this
    cases this
theorem own_stays (g2 : Good2 Rs) {g : Str} (hc : g ≠ G.guild ∨ ownB (dueOf kvs G.guild) (ofG Rs G.guild) G = false) : ∀ F ∈ ownOf (dueOf kvs g) (gsOf Rs g) (zeros (dueOf kvs g).length), stays kvs Rs G F = true := fun F hF => by
  have h := own_not (kvs := kvs) g2 hF
  obtain ⟨R, hR, e, eg⟩ := gs_row ((own_sub _ _ _).subset hF)
  unfold stays groundOf
  rw [h, eg]
  rcases hc with hc | hc
  · rw [if_neg hc]
    rfl
  · by_cases hg : g = G.guild
    · rw [if_pos hg, hc]
      unfold gIn
      rw [if_neg (by simp)]
      rfl
    · rw [if_neg hg]
      rfl
/-- (4) the own ones are the same -/
theorem left_own (g2 : Good2 Rs) {g : Str} (hc : g ≠ G.guild ∨ ownB (dueOf kvs G.guild) (ofG Rs G.guild) G = false) : (partRs (dueOf kvs g) (ofG (leftL kvs Rs G) g)).1 = (partRs (dueOf kvs g) (ofG Rs g)).1 ∧ (partRs (dueOf kvs g) (ofG (leftL kvs Rs G) g)).2.2 = (partRs (dueOf kvs g) (ofG Rs g)).2.2 ∧
    (partRs (dueOf kvs g) (ofG (leftL kvs Rs G) g)).2.1 = (lentOf (dueOf kvs g) (gsOf Rs g) (zeros (dueOf kvs g).length)).filter (stays kvs Rs G) := by
  obtain ⟨h1, h2, h3⟩ := part_filter (own_stays (kvs := kvs) g2 hc)
  rw [part_left g2, partRs_eq]
  exact ⟨h1, h3, h2⟩
/-- (3) where it is own, none of a lesser rank is left -/
theorem left_above (g2 : Good2 Rs) (ho : ownB (dueOf kvs G.guild) (ofG Rs G.guild) G = true) : ofG (leftL kvs Rs G) G.guild = aboveOf G.rank (ofG Rs G.guild) := by
  rw [left_guild g2.names]
  refine List.filter_congr fun R hR => ?_
  have hg : R.1.guild = G.guild := of_decide_eq_true (List.mem_filter.mp hR).2
  unfold stays groundOf
  rw [if_pos hg, ho]
  unfold gIn
  by_cases hl : R.1.rank < G.rank
  · rw [decide_eq_true hl, if_pos (by simp), decide_eq_false (by omega)]
    rfl
  · rw [decide_eq_false hl, if_neg (by simp), decide_eq_true (by omega)]
    rfl
/-- (1) no lent one of a lesser rank is left -/
theorem left_lent (g2 : Good2 Rs) {g : Str} : ∀ F ∈ (partRs (dueOf kvs g) (ofG (leftL kvs Rs G) g)).2.1, ¬ F.rank < G.rank := fun F hF hl => by
  by_cases hc : g ≠ G.guild ∨ ownB (dueOf kvs G.guild) (ofG Rs G.guild) G = false
  · rw [(left_own g2 hc).2.2] at hF
    obtain ⟨h1, h2⟩ := List.mem_filter.mp hF
    have hi := lent_in h1
    obtain ⟨R, hR, e, eg⟩ := gs_row ((lent_sub _ _ _).subset h1)
    unfold stays groundOf at h2
    rw [hi, eg, decide_eq_true hl] at h2
    by_cases hg : g = G.guild
    · rw [if_pos hg] at h2
      cases h2
    · rw [if_neg hg] at h2
      unfold gBey at h2
      cases ho : owedB (dueOf kvs G.guild) (ofG Rs G.guild) G <;> rw [ho] at h2 <;> cases h2
  · have hg : g = G.guild := Classical.byContradiction fun z => hc (.inl z)
    have ho : ownB (dueOf kvs G.guild) (ofG Rs G.guild) G = true := by
      cases h : ownB (dueOf kvs G.guild) (ofG Rs G.guild) G with
      | true => rfl
      | false => exact absurd (.inr h) hc
    subst hg
    obtain ⟨R, hR, e⟩ := partRs_mem (.inr hF)
    rw [left_above g2 ho] at hR
    have := of_decide_eq_true (List.mem_filter.mp hR).2
    rw [e] at this
    omega
/-- (2) where it is owed, no lent one of another guild is left -/
theorem left_none (g2 : Good2 Rs) {g : Str} (hg : g ≠ G.guild) (ho : owedB (dueOf kvs G.guild) (ofG Rs G.guild) G = true) : (partRs (dueOf kvs g) (ofG (leftL kvs Rs G) g)).2.1 = [] := by
  rw [(left_own g2 (.inl hg)).2.2]
  refine List.filter_eq_nil_iff.mpr fun F hF z => ?_
  have hi := lent_in hF
  obtain ⟨R, hR, e, eg⟩ := gs_row ((lent_sub _ _ _).subset hF)
  unfold stays groundOf at z
  rw [hi, eg, if_neg hg, ho] at z
  cases z
end
/-! one that is owed would be own -/
theorem ord_split {Rs : List (Gang × Int)} (nd : (Rs.map (·.2)).Nodup) (r : Int) : ord Rs = ord (aboveOf r Rs) ++ ord (belowOf r Rs) := by
  refine (ord_of nd ?_ ?_).symm
  · exact ((ord_perm (aboveOf r Rs)).append (ord_perm (belowOf r Rs))).trans (List.filter_append_perm _ Rs)
  · rw [List.pairwise_append]
    refine ⟨ord_sorted _, ord_sorted _, fun a ha b hb => ?_⟩
    have ha3 : r ≤ a.1.rank := of_decide_eq_true (List.mem_filter.mp ((ord_perm _).mem_iff.mp ha)).2
    have hb' := (List.mem_filter.mp ((ord_perm _).mem_iff.mp hb)).2
    simp only [Bool.not_eq_true', decide_eq_false_iff_not] at hb'
    unfold rowLe
    rw [decide_eq_true_eq]
    omega
def leL (xs ys : List Int) : Prop := xs.length = ys.length ∧ ∀ (i : Nat) (x y : Int), xs[i]? = some x → ys[i]? = some y → x ≤ y
theorem leL_refl (xs : List Int) : leL xs xs := ⟨rfl, fun i x y h1 h2 => by rw [h1] at h2; cases h2; exact Int.le_refl _⟩
theorem leL_trans {xs ys zs : List Int} (a : leL xs ys) (b : leL ys zs) : leL xs zs := ⟨a.1.trans b.1, fun i x z h1 h2 => by
  have hi : i < ys.length := by rw [← a.1]; exact (List.getElem?_eq_some_iff.mp h1).1
  exact Int.le_trans (a.2 i x _ h1 (List.getElem?_eq_getElem hi)) (b.2 i _ z (List.getElem?_eq_getElem hi) h2)⟩
theorem fitB_iff {xs ys : List Int} : fitB xs ys = true ↔ ∀ (i : Nat) (x y : Int), xs[i]? = some x → ys[i]? = some y → x ≤ y := by
  unfold fitB
  rw [List.all_eq_true]
  refine ⟨fun h i x y h1 h2 => ?_, fun h b hb => ?_⟩
  · refine of_decide_eq_true (h (decide (x ≤ y)) (List.mem_of_getElem? (i := i) ?_))
    rw [List.getElem?_zipWith, h1, h2]
  · obtain ⟨i, hi⟩ := List.mem_iff_getElem?.mp hb
    rw [List.getElem?_zipWith] at hi
    cases e1 : xs[i]? with
    | none => rw [e1] at hi; cases hi
    | some x =>
      cases e2 : ys[i]? with
      | none => rw [e1, e2] at hi; cases hi
      | some y =>
        rw [e1, e2] at hi
        cases hi
        exact decide_eq_true (h i x y e1 e2)
theorem fitB_le {xs ys dn : List Int} (h : leL xs ys) (f : fitB ys dn = true) : fitB xs dn = true := fitB_iff.mpr fun i x d h1 h2 => by
  have hi : i < ys.length := by rw [← h.1]; exact (List.getElem?_eq_some_iff.mp h1).1
  exact Int.le_trans (h.2 i x _ h1 (List.getElem?_eq_getElem hi)) (fitB_iff.mp f i _ d (List.getElem?_eq_getElem hi) h2)
theorem addL_at {xs ys : List Int} {i : Nat} {z : Int} (h : (addL xs ys)[i]? = some z) : ∃ x y, xs[i]? = some x ∧ ys[i]? = some y ∧ z = x + y := by
  unfold addL at h
  rw [List.getElem?_zipWith] at h
  cases e1 : xs[i]? with
  | none => rw [e1] at h; cases h
  | some x =>
    cases e2 : ys[i]? with
    | none => rw [e1, e2] at h; cases h
    | some y =>
      rw [e1, e2] at h
      exact ⟨x, y, rfl, rfl, (Option.some.inj h).symm⟩
theorem addL_le {xs ys ws : List Int} (h : leL xs ys) : leL (addL xs ws) (addL ys ws) := by
  refine ⟨by unfold addL; rw [List.length_zipWith, List.length_zipWith, h.1], fun i a b h1 h2 => ?_⟩
  obtain ⟨x, u, e1, e2, rfl⟩ := addL_at h1
  obtain ⟨y, u', e3, e4, rfl⟩ := addL_at h2
  rw [e2] at e4
  cases e4
  have := h.2 i x y e1 e3
  omega
theorem addL_more {xs ws : List Int} (hl : ws.length = xs.length) (hn : ∀ n ∈ ws, 0 ≤ n) : leL xs (addL xs ws) := by
  refine ⟨by rw [addL_len hl], fun i x y h1 h2 => ?_⟩
  obtain ⟨x', u, e1, e2, rfl⟩ := addL_at h2
  rw [h1] at e1
  cases e1
  have := hn u (List.mem_of_getElem? e2)
  omega
theorem load_more {dn : List Int} : ∀ {Gs : List Gang} {ld : List Int}, (∀ F ∈ Gs, F.want.length = ld.length ∧ ∀ n ∈ F.whole, 0 ≤ n) → leL ld (loadOf dn Gs ld)
  | [], ld, _ => leL_refl ld
  | F :: Gs, ld, h => by
    have hF := h F List.mem_cons_self
    unfold loadOf
    split
    · have hl : (addL ld F.whole).length = ld.length := addL_len (by rw [whole_len]; exact hF.1)
      exact leL_trans (addL_more (by rw [whole_len]; exact hF.1) hF.2) (load_more fun K hK => ⟨by rw [hl]; exact (h K (List.mem_cons_of_mem _ hK)).1, (h K (List.mem_cons_of_mem _ hK)).2⟩)
    · exact load_more fun K hK => h K (List.mem_cons_of_mem _ hK)
theorem whole_nn {R : Gang × Int} (f : Fit R) : ∀ n ∈ R.1.whole, 0 ≤ n := fun n hn => by
  obtain ⟨x, hx, rfl⟩ := List.mem_map.mp hn
  exact Int.mul_nonneg (f.amt x hx).1 f.m0
/-- (5) -/
theorem owed_own {dn : List Int} {Ms : List (Gang × Int)} {G : Gang} (g2 : Good2 Ms) (hw : ∀ R ∈ Ms, R.1.want.length = dn.length) (h : owedB dn Ms G = true) : ownB dn Ms G = true := by
  unfold ownB owedB
  unfold owedB at h
  refine fitB_le (addL_le ?_) h
  rw [partRs_eq, partRs_eq]
  show leL (loadOf dn _ _) (loadOf dn _ _)
  rw [ord_split g2.nums G.rank, List.map_append, (own_app dn _ _ _).2.2]
  refine load_more fun F hF => ?_
  obtain ⟨R, hR, rfl⟩ := List.mem_map.mp hF
  have hR' := (List.mem_filter.mp ((ord_perm _).mem_iff.mp hR)).1
  have hl := load_len (dn := dn) (Rs := aboveOf G.rank Ms) fun S hS => hw S (List.mem_filter.mp hS).1
  rw [partRs_eq] at hl
  exact ⟨by rw [hw R hR']; exact hl.symm, whole_nn (g2.fit R hR')⟩
/-- (6) -/
theorem left_owed {kvs : List (Str × List Int)} {Rs : List (Gang × Int)} {G : Gang} (g2 : Good2 Rs) (hw : ∀ R ∈ ofG Rs G.guild, R.1.want.length = (dueOf kvs G.guild).length) : owedB (dueOf kvs G.guild) (ofG (leftL kvs Rs G) G.guild) G = ownB (dueOf kvs G.guild) (ofG Rs G.guild) G := by
  cases ho : ownB (dueOf kvs G.guild) (ofG Rs G.guild) G with
  | true =>
    rw [left_above g2 ho]
    exact ho
  | false =>
    unfold owedB
    rw [(left_own g2 (.inr ho)).2.1]
    cases hd : owedB (dueOf kvs G.guild) (ofG Rs G.guild) G with
    | false => exact hd
    | true =>
      have : ownB (dueOf kvs G.guild) (ofG Rs G.guild) G = true := owed_own (g2.sub List.filter_sublist) hw hd
      rw [ho] at this
      cases this
/-! a dict that is walked is locked, and unlocked again -/
theorem Tabs.lock {Ts : List Addr} {H : Hp} {d od : Addr} {o : Obj} {ps : List (Key × V)} (t : Tabs Ts H) (ed : H d = some (.dK ps)) : Tabs Ts (upd H d (.frz o (.dK ps))) := fun T hT => by
  obtain ⟨pp, h1, h2⟩ := t T hT
  refine ⟨pp, ?_, h2⟩
  rw [upd_ne fun z => ?_]
  · exact h1
  · rw [z, ed] at h1
    cases h1
theorem Fw.unlock {Ts : List Addr} {H H' : Hp} {d : Addr} {o : Obj} {ps : List (Key × V)} (t : Tabs Ts H) (ed : H d = some (.dK ps)) (f : Fw Ts (upd H d (.frz o (.dK ps))) H') : Fw Ts H (upd H' d (.dK ps)) := by
  have Tk : Tabs Ts (upd H d (.frz o (.dK ps))) := Tabs.lock (od := d) t ed
  have ek : upd H d (.frz o (.dK ps)) d = some (.frz o (.dK ps)) := upd_same
  refine ⟨fun x u nx e => ?_, fun T hT => ?_⟩
  · by_cases z : x = d
    · rw [z] at e ⊢
      rw [upd_same, ← e, ed]
    · rw [upd_ne z]
      refine f.kp x u nx ?_
      rw [upd_ne z]
      exact e
  · obtain ⟨pp, h1, h2⟩ := f.tabs T hT
    refine ⟨pp, ?_, h2⟩
    rw [upd_ne fun z => ?_]
    · exact h1
    · have := f.obj Tk ek fun pp z => by cases z
      rw [← z, h1] at this
      cases this
end My

namespace My
open PySem PySem.W PySem.Spec PyProof.Rows L2 GX GxR
/-! books -/
def mbody : Stmt → List Stmt
  | .ClassDef _ _ _ b _ _ _ _ _ _ _ => b
  | _ => []
/-- the class of books -/
structure BCls (K : PySem.W.Frag) (C : Addr) : Prop where
  cls : Cls K C
  room : NoAttr K C "room"
  entries : NoAttr K C "entries"
  lefts : NoAttr K C "lefts"
def EnAt (H : Hp) (p : Key × V) (x : Bw) : Prop := p.1 = Sum.inr x.key ∧ ∃ r, p.2 = .ref r ∧ BwAt H r x
theorem EnAt.kt {H H' : Hp} {p : Key × V} {x : Bw} (k : KTu H H') (h : EnAt H p x) : EnAt H' p x := by
  obtain ⟨h1, r, h2, h3⟩ := h
  exact ⟨h1, r, h2, h3.kt k⟩
theorem en_keys {H : Hp} : ∀ {ps : List (Key × V)} {rs : List Bw}, Paired (EnAt H) ps rs → ps.map (·.1) = (rs.map (·.key)).map Sum.inr
  | _, _, .nil => rfl
  | _, _, .cons r t => by rw [List.map_cons, List.map_cons, List.map_cons, en_keys t, r.1]
def flds (m d : Addr) (lv : V) : List (Str × V) := [("room", .ref m), ("entries", .ref d), ("lefts", lv)]
/-- the book at a: its room, its entries -/
structure BookAt (H : Hp) (C a dx m d : Addr) (lv : V) (ps : List (Key × V)) (room : List Int) (rs : List Bw) : Prop where
  obj : H a = some (.ins C dx (flds m d lv))
  rm : H m = some (.tup (room.map V.int))
  en : H d = some (.dK ps)
  prs : Paired (EnAt H) ps rs
  nd : (rs.map (·.key)).Nodup
  few : rs.length < 110
  ok : BwOk room.length rs
  r1 : 1 ≤ room.length
  r20 : room.length ≤ 20
section
variable {H H' : Hp} {C a dx m d : Addr} {lv : V} {ps : List (Key × V)} {room : List Int} {rs : List Bw}
theorem BookAt.same (s : Same H H') (B : BookAt H C a dx m d lv ps room rs) : BookAt H' C a dx m d lv ps room rs :=
  ⟨s _ _ B.obj, s _ _ B.rm, s _ _ B.en, B.prs.mono fun _ _ x => x.kt (Same.kt s), B.nd, B.few, B.ok, B.r1, B.r20⟩
theorem BookAt.get (B : BookAt H C a dx m d lv ps room rs) {z : Str} (hz : z ∈ rs.map (·.key)) : ∃ (r : Addr) (x : Bw), valV ps (Sum.inr z) = some (.ref r) ∧ BwAt H r x ∧ x ∈ rs ∧ x.key = z := by
  obtain ⟨i, hi⟩ := List.mem_iff_getElem?.mp hz
  rw [List.getElem?_map] at hi
  cases e : rs[i]? with
  | none => rw [e] at hi; cases hi
  | some x =>
    rw [e] at hi
    have hk : x.key = z := Option.some.inj hi
    obtain ⟨p, hp, h1, r, h2, h3⟩ := paired_get2 B.prs e
    refine ⟨r, x, ?_, h3, List.mem_of_getElem? e, hk⟩
    rw [← h2]
    refine valV_get ?_ (i := i) ?_
    · rw [en_keys B.prs]
      exact keys_nd B.nd
    · rw [hp, ← hk, ← h1]
end
/-- entries in the order of their keys -/
def InKeys (rs ss : List Bw) : Prop := ss.Perm rs ∧ sortedS (ss.map (·.key)) = true
theorem perm_keys {rs ss : List Bw} {ys : List Str} (nd : (rs.map (·.key)).Nodup) (p : ys.Perm (rs.map (·.key))) (e : ss.map (·.key) = ys) (h : ∀ x ∈ ss, x ∈ rs) : ss.Perm rs := by
  have n1 : (ss.map (·.key)).Nodup := by rw [e]; exact p.nodup_iff.mpr nd
  have nodup_of : ∀ {xs : List Bw}, (xs.map (·.key)).Nodup → xs.Nodup := fun {xs} h => by
    rw [List.Nodup, List.pairwise_map] at h
    exact h.imp fun q z => q (by rw [z])
  refine (List.perm_ext_iff_of_nodup (nodup_of n1) (nodup_of nd)).mpr fun x => ⟨h x, fun hx => ?_⟩
  have : x.key ∈ ss.map (·.key) := by
    rw [e]
    exact p.mem_iff.mpr (List.mem_map.mpr ⟨x, hx, rfl⟩)
  obtain ⟨y, hy, ey⟩ := List.mem_map.mp this
  rw [nodup_inj nd x hx y (h y hy) ey.symm]
  exact hy
def spERows (K : PySem.W.Frag) (C : Addr) : Sp := fun vs H Q _ => ∃ (a dx m d : Addr) (lv : V) (ps : List (Key × V)) (room : List Int) (rs : List Bw), vs = [.ref a] ∧ BookAt H C a dx m d lv ps room rs ∧
  ∀ p H' as ss, Same H H' → H p = none → H' p = some (.lst (as.map V.ref)) → Paired (BwAt H') as ss → InKeys rs ss → Q (.ref p) H'
def spWRoom (C : Addr) : Sp := fun vs H Q _ => ∃ (a dx m d : Addr) (lv : V), vs = [.ref a] ∧ H a = some (.ins C dx (flds m d lv)) ∧ Q (.ref m) H
def spLoadAt (K : PySem.W.Frag) (C : Addr) : Sp := fun vs H Q _ => ∃ (a dx m d : Addr) (lv : V) (ps : List (Key × V)) (room : List Int) (rs : List Bw) (t : Int), vs = [.ref a, .int t] ∧ BookAt H C a dx m d lv ps room rs ∧
  ∀ p H', Same H H' → H p = none → H' p = some (.tup ((netB room.length rs t).map V.int)) → Q (.ref p) H'
theorem net_nil (w : Nat) (t : Int) : netB w [] t = List.replicate w 0 := by
  unfold netB
  apply List.ext_getElem
  · simp
  · intro i h1 h2
    simp
theorem net_skip {w : Nat} {rs : List Bw} {x : Bw} {t : Int} (h : liveAt t x = false) : netB w (rs ++ [x]) t = netB w rs t := by
  unfold netB
  rw [List.filter_append, List.filter_cons_of_neg (by rw [h]; exact Bool.false_ne_true), List.filter_nil, List.append_nil]
theorem net_add {w : Nat} {rs : List Bw} {x : Bw} {t : Int} (h : liveAt t x = true) (hl : x.am.length = w) : List.zipWith (· + ·) (netB w rs t) x.am = netB w (rs ++ [x]) t := by
  apply List.ext_getElem
  · rw [List.length_zipWith, netB_len, netB_len, hl, Nat.min_self]
  · intro i h1 h2
    rw [netB_len] at h2
    simp [netB, List.filter_append, h, show i < x.am.length by omega]
theorem net_perm {w : Nat} {rs ss : List Bw} (p : ss.Perm rs) (t : Int) : netB w ss t = netB w rs t := by
  unfold netB
  exact List.map_congr_left fun j _ => perm_sum ((p.filter _).map _)
theorem Srt.perm {rs ss : List Bw} {ks : List Int} (p : ss.Perm rs) (h : Srt ss ks) : Srt rs ks := ⟨h.1, fun t => by
  rw [h.2]
  constructor
  · rintro ⟨x, hx, e⟩
    exact ⟨x, p.mem_iff.mp hx, e⟩
  · rintro ⟨x, hx, e⟩
    exact ⟨x, p.mem_iff.mpr hx, e⟩⟩
theorem BwOk.perm {w : Nat} {rs ss : List Bw} (p : ss.Perm rs) (h : BwOk w rs) : BwOk w ss := ⟨by rw [p.length_eq]; exact h.few, fun x hx => h.lt x (p.mem_iff.mp hx), fun x hx => h.len x (p.mem_iff.mp hx)⟩
/-! a locked dict -/
theorem kp_lock {H : Hp} {d : Addr} {o : HO} : Kp [d] H (upd H d o) := kp_upd (List.mem_singleton.mpr rfl)
theorem unlock_same {H H' : Hp} {d : Addr} {u : HO} (ed : H d = some u) (k : Kp [d] H H') : Same H (upd H' d u) := fun x o e => by
  by_cases z : x = d
  · rw [z, upd_same]
    rw [z, ed] at e
    exact e
  · rw [upd_ne z]
    exact k _ _ (fun q => z (List.mem_singleton.mp q)) e
def minI (i j : Int) : Int := if j < i then j else i
/-! what is left from edge to edge -/
def lessL (xs ys : List Int) : List Int := List.zipWith (· - ·) xs ys
def LfAt (room : List Int) (rs : List Bw) (H : Hp) (l : Addr) (q : Int × Int) : Prop := ∃ p, H l = some (.tup [.int q.1, .int q.2, .ref p]) ∧ H p = some (.tup ((lessL room (netB room.length rs q.1)).map V.int))
theorem LfAt.kt {room : List Int} {rs : List Bw} {H H' : Hp} {l : Addr} {q : Int × Int} (k : KTu H H') (h : LfAt room rs H l q) : LfAt room rs H' l q := by
  obtain ⟨p, h1, h2⟩ := h
  exact ⟨p, k _ _ h1, k _ _ h2⟩
def LeftsAt (H : Hp) (lv : V) (room : List Int) (rs : List Bw) : Prop := lv = .non ∨ ∃ (l : Addr) (ls : List Addr) (ks : List Int), lv = .ref l ∧ H l = some (.lst (ls.map V.ref)) ∧ Srt rs ks ∧ Paired (LfAt room rs H) ls (ks.zip (ks.drop 1))
def spLRows (K : PySem.W.Frag) (C : Addr) : Sp := fun vs H Q _ => ∃ (a dx m d : Addr) (lv : V) (ps : List (Key × V)) (room : List Int) (rs : List Bw), vs = [.ref a] ∧ BookAt H C a dx m d lv ps room rs ∧ LeftsAt H lv room rs ∧
  ∀ l H' ls ks, Kp [a] H H' → H' a = some (.ins C dx (flds m d (.ref l))) → H' l = some (.lst (ls.map V.ref)) → Srt rs ks → Paired (LfAt room rs H') ls (ks.zip (ks.drop 1)) → Q (.ref l) H'
/-- the least of what is left where [b, e) meets an edge to the next -/
def meets (b e : Int) (q : Int × Int) : Bool := decide (q.1 < e) && decide (b < q.2)
def leastStep (room : List Int) (rs : List Bw) (acc : Option (List Int)) (q : Int × Int) : Option (List Int) := match acc with
  | none => some (lessL room (netB room.length rs q.1))
  | some v => some (List.zipWith minI v (lessL room (netB room.length rs q.1)))
def leastLeft (room : List Int) (rs : List Bw) (b e : Int) (qs : List (Int × Int)) : Option (List Int) := (qs.filter (meets b e)).foldl (leastStep room rs) none
def spLOver (K : PySem.W.Frag) (C : Addr) : Sp := fun vs H Q _ => ∃ (a dx m d : Addr) (lv : V) (ps : List (Key × V)) (room : List Int) (rs : List Bw) (b e : Int), vs = [.ref a, .int b, .int e] ∧ BookAt H C a dx m d lv ps room rs ∧ LeftsAt H lv room rs ∧
  ∀ p l H' ls ks, Kp [a] H H' → H' a = some (.ins C dx (flds m d (.ref l))) → H' l = some (.lst (ls.map V.ref)) → Srt rs ks → Paired (LfAt room rs H') ls (ks.zip (ks.drop 1)) → H' p = some (.tup (((leastLeft room rs b e (ks.zip (ks.drop 1))).getD room).map V.int)) → Q (.ref p) H'
theorem less_len {xs ys : List Int} : (lessL xs ys).length ≤ xs.length := by
  unfold lessL
  rw [List.length_zipWith]
  exact Nat.min_le_left _ _
def LV (H : Hp) (v : V) (o : Option (List Int)) : Prop := match o with
  | none => v = .non
  | some ns => ns.length ≤ 20 ∧ ∃ p, v = .ref p ∧ H p = some (.tup (ns.map V.int))
theorem LV.kt {H H' : Hp} {v : V} {o : Option (List Int)} (k : KTu H H') (h : LV H v o) : LV H' v o := by
  cases o with
  | none => exact h
  | some ns =>
    obtain ⟨h1, p, h2, h3⟩ := h
    exact ⟨h1, p, h2, k _ _ h3⟩
theorem left_snoc {room : List Int} {rs : List Bw} {b e : Int} {qs : List (Int × Int)} {q : Int × Int} : leastLeft room rs b e (qs ++ [q]) = if meets b e q = true then leastStep room rs (leastLeft room rs b e qs) q else leastLeft room rs b e qs := by
  unfold leastLeft
  rw [List.filter_append, List.filter_cons]
  split
  · rw [List.filter_nil, List.foldl_append]
    rfl
  · rw [List.filter_nil, List.append_nil]
/-- the least of these above t -/
def leastAb (ns : List Int) (t : Int) (o : Option Int) : Prop := match o with
  | none => ∀ n ∈ ns, n ≤ t
  | some n => n ∈ ns ∧ t < n ∧ ∀ y ∈ ns, t < y → n ≤ y
def spLeast (K : PySem.W.Frag) : Sp := fun vs H Q _ => ∃ (a : Addr) (ns : List Int) (t : Int), vs = [.ref a, .int t] ∧ SqL K H a (ns.map V.int) ∧ ns.length ≤ 400 ∧ ∀ H' o, Same H H' → leastAb ns t o → Q (oI o) H'
def spNextE (K : PySem.W.Frag) (C : Addr) (f : List Bw → List Int) : Sp := fun vs H Q _ => ∃ (a dx m d : Addr) (lv : V) (ps : List (Key × V)) (room : List Int) (rs : List Bw) (t : Int), vs = [.ref a, .int t] ∧ BookAt H C a dx m d lv ps room rs ∧
  ∀ H' ss o, Same H H' → InKeys rs ss → leastAb (f ss) t o → Q (oI o) H'
end My

set_option maxHeartbeats 2000000
namespace XI
open PySem PySem.W PySem.Calls PyProof.Rows
/-- the body of such an __init__: super().__init__(words); self.f = f -/
abbrev bodyI (f : Str) (p0 p1 p2 p3 p4 p5 q1 q2 q3 q4 : Pos) : List Stmt :=
  [.Expr (.Call (.Attribute (.Call (.Name "super" p0) [] [] p1) "__init__" p2) [.Name "words" p3] [] p4) p5, .Assign [.Attribute (.Name "self" q1) f q2] (.Name f q3) q4]
section
variable {prog : Program} {w : World} {A : Around} {R : Result → Shared → Prop} {K : Frag} {mg mb : Str → Option Value}
variable {C fI cda cc : Addr} {qual f file : Str} {params : Arguments} {scope : Scope} {kV doc pm ct oc ccl cl : Value} {an od cdd cld : Option Addr} {osl ccs csl : Array (Option Value)} {vs : Array Value} {tf : Tok} {cd : ClassData} {p0 p1 p2 p3 p4 p5 q1 q2 q3 q4 : Pos} {ar : Arg} {pl : Env → Sem Bool}
theorem init_run {hp : Heap} {g : Array GenState} {d : Drawn} {t : Nat} {os : OsState} {e t1 : Addr} {u1 u2 : Value} {args : Args} (hroom : A.depth < recursionLimit) (X : K.In hp) (hg : hp.Ns mainGlobals mg) (hb : hp.Ns builtinsNs mb) (hbb : ∀ x : Str, x ≠ "__name__" → mb x = bootBuiltins x) (lim : hp.NoLimit)
    (T : L2.OexC K C) (hno : findIn K (.ref C) f = some none)
    (lf : K.lookup fI = some ⟨oc, od, .func (ksFn "__init__" qual params (bodyI f p0 p1 p2 p3 p4 p5 q1 q2 q3 q4) scope .none kV doc pm an (.ref cda) ct cc), osl⟩) (hcd : codeIn K (.ref cda) qual = true)
    (hcode : K.lookup cda = some ⟨ccl, cdd, .fields vs, ccs⟩) (hvs : vs[2]? = some (.str file tf)) (hfile : ((prog.main.file : Str) == file) = true)
    (hcell : K.lookup cc = some ⟨cl, cld, .cell (some (.ref C)), csl⟩) (hC : clsIn K C = some cd) (hsub : mroIn K C (.ref C) = some true) (hms : mg "super" = none) (ho : nsIn K cStatics "thirdparty.any" = some none)
    (hvC : typeIn K (.ref C) = some (.type "type")) (hsi : ks_superIn K C C "__init__" = some (some (.builtin "ValueError.__init__"))) (hve : subIn K (.ref C) (.type "ValueError") = some true) (htop : (prog.main.scope.names.lookup ("super" : Str)).isSome = false)
    (hpp : (params.posonlyargs ++ params.args).head? = some ar) (hpa : ar.arg = "self")
    (hbind : BindsTo ⟨hp, g, d, t, os⟩ (ksFn "__init__" qual params (bodyI f p0 p1 p2 p3 p4 p5 q1 q2 q3 q4) scope .none kV doc pm an (.ref cda) ct cc) args [("self", .ref e), ("words", u1), (f, u2)])
    (sc1 : scope.names.lookup ("super" : Str) = some .globalImplicit) (sc2 : scope.names.lookup ("__class__" : Str) = some .free) (sc3 : scope.names.lookup ("self" : Str) = some .local) (sc4 : scope.names.lookup ("words" : Str) = some .local) (sc5 : scope.names.lookup f = some .local)
    (sc6 : ∀ x ∈ scope.names, x.2 ≠ .cell) (sck : scope.kind = .function) (sco : scope.isCoroutine = false) (scg : scope.isGenerator = false) (nf1 : f ≠ "self") (nf2 : f ≠ "words") (hfd : (f == ("__debug__" : Str)) = false)
    (hev : ∀ env : Env, eval (.Call (.Attribute (.Call (.Name "super" p0) [] [] p1) "__init__" p2) [.Name "words" p3] [] p4) env = (do
      let ov ← attributeBase (.Call (.Name "super" p0) [] [] p1) "__init__" env (eval (.Call (.Name "super" p0) [] [] p1) env)
      standAt p2.atName
      let (f, first) ← holding [ov] (getMethod ov "__init__" (pl env))
      callWith p4 f first (backTo p4 (starEach [.Name "words" p3] env)) []))
    (hKe : ∀ o, K.lookup e ≠ some o) (he : hp.get? e = some (HandSPX.excO C t1))
    (hq : ∀ h' tk dx t2, (∀ b o, b ≠ e → hp.get? b = some o → h'.get? b = some o) → hp.objs.size ≤ dx → dx ≠ e → h'.get? e = some ({ cls := .ref C, dict := some dx, data := .fields #[.ref t2, .none, .none, .none, .bool false, .none] } : Obj) →
      h'.Ns1 dx (fun y => if y = f then some u2 else none) → R (.ok (.ret .none)) ⟨h', g, d, tk, os⟩) :
    codeAny (model prog w) A (.call (.ref fI) args) R ⟨hp, g, d, t, os⟩ := by
  obtain ⟨nm, q, N, bs, bm, sn, sub, ab, col, dd, k0, k1, k2, k3, k5, hCo, hbm⟩ := T.cls
  have hcl : clsIn K C = some { name := nm, bases := bs, mro := .ref C :: bm, ns := N, qualname := q, hasDict := true, slotNames := sn, subclasses := sub, abstract := ab, collection := col, hasDel := false } := by unfold clsIn; rw [hCo] <;> rfl
  refine ks_codeAny_call_defAt (fd := ksFn "__init__" qual params (bodyI f p0 p1 p2 p3 p4 p5 q1 q2 q3 q4) scope .none kV doc pm an (.ref cda) ct cc) (body := bodyI f p0 p1 p2 p3 p4 p5 q1 q2 q3 q4) (binds := [("self", .ref e), ("words", u1), (f, u2)]) hroom (X _ _ lf) rfl lim (codeRec_of X hcd) rfl hbind sc6 (fun y hy => ?_) (fun h1 hns hk1 => ?_) sco scg sck
  · rcases List.mem_cons.mp hy with z | hy
    · rw [z]; exact sc3
    · rcases List.mem_cons.mp hy with z | hy
      · rw [z]; exact sc4
      · rw [List.mem_singleton.mp hy]; exact sc5
  · have X1 : K.In h1 := fun b o z => hk1 b o (X b o z)
    have b1 : (("self" : Str) == f) = false := by simpa using Ne.symm nf1
    have b2 : (("words" : Str) == f) = false := by simpa using Ne.symm nf2
    have m1 : (fun x => ([("self", Value.ref e), ("words", u1), (f, u2)] : List (Str × Value)).reverse.lookup x) "self" = some (.ref e) := by
      show ([(f, u2), ("words", u1), ("self", Value.ref e)] : List (Str × Value)).lookup (Str.ofString "self") = _
      rw [List.lookup_cons, b1]
      rfl
    have m2 : (fun x => ([("self", Value.ref e), ("words", u1), (f, u2)] : List (Str × Value)).reverse.lookup x) "words" = some u1 := by
      show ([(f, u2), ("words", u1), ("self", Value.ref e)] : List (Str × Value)).lookup (Str.ofString "words") = _
      rw [List.lookup_cons, b2]
      rfl
    have m3 : (fun x => ([("self", Value.ref e), ("words", u1), (f, u2)] : List (Str × Value)).reverse.lookup x) f = some u2 := by
      show ([(f, u2), ("words", u1), ("self", Value.ref e)] : List (Str × Value)).lookup f = _
      rw [List.lookup_cons, beq_self_eq_true]
    generalize hm : (fun x => ([("self", Value.ref e), ("words", u1), (f, u2)] : List (Str × Value)).reverse.lookup x) = m at hns m1 m2 m3
    have he1 := hk1 _ _ he
    have hlt := Heap.lt_size he
    have hCm := X1 _ _ hCo
    have hpl : interactive (callEnv (ksFn "__init__" qual params (bodyI f p0 p1 p2 p3 p4 p5 q1 q2 q3 q4) scope .none kV doc pm an (.ref cda) ct cc) hp.objs.size fI) = false := by
      show (scope.kind == .module && _) = false
      rw [sck]
      rfl
    refine ks_wpAt_execs_cons (ks_wpAt_Expr_any ?_ hpl)
    refine ks_wpAt_MethodCall ?_ (hev _)
    refine ks_wpAt_super_base sc1 sc2 (by decide) rfl (X1 _ _ lf) rfl hpp rfl (X1 _ _ hcode) rfl hvs hfile htop ?_
    have hg1 : h1.Ns mainGlobals mg := let ⟨o, es, ep, y, r⟩ := hg; ⟨o, es, ep, hk1 _ _ y, r⟩
    have hb1 : h1.Ns builtinsNs mb := let ⟨o, es, ep, y, r⟩ := hb; ⟨o, es, ep, hk1 _ _ y, r⟩
    refine ks_loadName_global sck sc1 (loadGlobal_builtin (mg := mg) (mb := mb) hg1 hms hb1 ((hbb "super" (by decide +kernel)).trans (c := some (.type "super")) (by kernel_rfl)) ⟨rfl, ?_⟩)
    refine wpAny_loadName_free sck sc2 rfl ⟨_, X1 _ _ hcell, rfl⟩ ?_
    rw [hpa]
    refine wpAny_loadName_local sck sc3 hns m1 ?_
    refine ks_wpAny_isType_cls hCm rfl ⟨rfl, ?_⟩
    refine ks_wpAny_call_super hCm rfl he1 rfl (fun c z => by cases z) (looks_mroIn X1 hsub) (fun h2 so2 hk2 => ?_)
    have X2 : K.In h2 := fun b o z => hk2 b o (X1 b o z)
    have he2 := hk2 _ _ he1
    have I2 : InstAt h2 e (HandSPX.excO C t1) C none := ⟨he2, rfl, rfl, trivial⟩
    have hsi' := hsi
    unfold ks_superIn at hsi'
    rw [hcl] at hsi'
    refine kxs_getMethod kxs_ValueError so2 (looks_opaque X2 ho) (l₀ := .ref C :: bm) ?_ rfl X2 hsi' (I2.type.andThen (looks_subIn X2 hve)) (ks_ne X2 I2 hcl) (by decide) ?_
    · exact fun A Q E s k q => wpAny_bind ((looks_clsIn X2 hcl) A _ E s k (wpAny_pure q))
    have hns2 : h2.Ns hp.objs.size m := let ⟨o, es, ep, y, r⟩ := hns; ⟨o, es, ep, hk2 _ _ y, r⟩
    have hmw : (h2.push (kxs_mw "ValueError.__init__" e)).get? h2.objs.size = some (kxs_mw "ValueError.__init__" e) := Heap.get?_push_at rfl rfl
    have hns3 : (h2.push (kxs_mw "ValueError.__init__" e)).Ns hp.objs.size m := let ⟨o, es, ep, y, r⟩ := hns2; ⟨o, es, ep, Heap.get?_push_of_some _ y, r⟩
    have he3 : (h2.push (kxs_mw "ValueError.__init__" e)).get? e = some (excObj C t1 none .none) := Heap.get?_push_of_some _ he2
    have X3 : K.In (h2.push (kxs_mw "ValueError.__init__" e)) := fun b o z => Heap.get?_push_of_some _ (X2 b o z)
    refine kxs_callWith (i := "ValueError.__init__") (x := e) (by rfl) (evalArgs_plain ?_)
    show wpAny _ _ (spliced ((false, eval (.Name "words" p3) _) :: backTo p4 (starEach [] _))) _ _ _
    refine Calls.spliced_cons (ldc sck sc4 hns3 m2 ?_)
    refine Calls.spliced_nil ⟨hmw, ?_⟩
    refine wpAny_call (codeAny_of_tree ?_)
    show wpAny _ _ (callAny (.ref h2.objs.size) ⟨[u1], []⟩) _ _ _
    simp only [callAny]
    refine wpAny_bind (wpAny_load hmw ?_)
    simp only [kxs_mw, show (Value.type "method-wrapper" == Value.type "method" || Value.type "method-wrapper" == Value.type "builtin_function_or_method" || Value.type "method-wrapper" == Value.type "method-wrapper") = true by decide, if_true]
    refine KFB.if_so (by decide) ?_
    refine wpAny_bind (check_bound_init F.excBase_ValueError.toExcCallFacts (X3 _ _ hCo) he3 rfl ?_)
    refine wpAny_bind (wpAny_pure (wpAny_pure ?_))
    refine ⟨plainId_quiet F.excBase_ValueError.init.plain _, codeAny_builtin F.excBase_ValueError.initEntry ?_⟩
    refine exc_init_tree (cls := .ref C) (t0 := t1) (dv := none) (c2 := .none) (c3 := .none) (b4 := .bool false) he3 (by show 1 ≤ sizeLine; rw [sizeLine_eq]; omega) (fun h4 hk4 he4 ht4 => ?_)
    have hLe : hp.objs.size ≠ e := Nat.ne_of_gt hlt
    have hns4 : h4.Ns hp.objs.size m := let ⟨o, es, ep, y, r⟩ := hns3; ⟨o, es, ep, hk4 _ _ hLe y, r⟩
    have neK : ∀ b o, K.lookup b = some o → b ≠ e := fun b o z y => by
      rw [y] at z
      exact hKe o z
    have X4 : K.In h4 := fun b o z => hk4 b o (neK b o z) (X3 b o z)
    refine wpAt_of_wpAny (wpAny_execs_cons (plainObj_wpAny_Assign_Attribute (ldc sck sc5 hns4 m3 (ldc sck sc3 hns4 m1 ?_) hfd)))
    have ho4 : h4.get? e = some { cls := .ref C, data := .fields #[.ref (h2.push (kxs_mw "ValueError.__init__" e)).objs.size, .none, .none, .none, .bool false, .none] } := he4
    refine set_plain (od := none) X4 ⟨ho4, rfl, rfl, trivial⟩ T.sa ?_
    refine HandSPX.exc_osa X4 ho4 hcl (show HandSPX.refsVE (.ref C :: bm) = true from hbm) rfl hno (fun h5 tk dx hk5 hdx hde he5 hn5 => ?_)
    refine wpAny_execs_nil (hq h5 tk dx _ (fun b o hb z => hk5 b o hb (hk4 b o hb (Heap.get?_push_of_some _ (hk2 b o (hk1 b o z))))) ?_ hde he5 hn5)
    refine Nat.le_trans ?_ hdx
    obtain ⟨o, es, ep, y, r⟩ := hns4
    exact Nat.le_of_lt (Heap.lt_size y)
end
end XI

set_option maxHeartbeats 2000000
namespace XI
open PySem PySem.Spec PyProof.Rows L2 GX GxR My
/-- self.f = y behind super().__init__(w), the object new at a -/
def spInit (C : Addr) (f : Str) : Sp := fun vs H Q _ => ∃ (a : Addr) (w y : V), vs = [.ref a, w, y] ∧ H a = some (exo a C none) ∧ ∀ dx, H dx = none → dx ≠ a → Q .non (upd (upd H dx (exd dx [(f, y)])) a (exo a C (some dx)))
section
variable {P : Program} {w : World} {K : PySem.W.Frag} {mg : Str → Option Value} {base : Heap}
variable {C fI cda cc : Addr} {qual f file : Str} {params : Arguments} {scope : Scope} {kV doc pm ct oc ccl cl : Value} {an od cdd cld : Option Addr} {osl ccs csl : Array (Option Value)} {vs : Array Value} {tf : Tok} {cd : ClassData} {p0 p1 p2 p3 p4 p5 q1 q2 q3 q4 : Pos} {ar : Arg} {pl : Env → Sem Bool} {k : Nat}
theorem init_fn (T : OexC K C) (hno : PySem.W.findIn K (.ref C) f = some none)
    (lf : K.lookup fI = some ⟨oc, od, .func (PySem.W.ksFn "__init__" qual params (bodyI f p0 p1 p2 p3 p4 p5 q1 q2 q3 q4) scope .none kV doc pm an (.ref cda) ct cc), osl⟩) (hcd : PySem.W.codeIn K (.ref cda) qual = true)
    (hcode : K.lookup cda = some ⟨ccl, cdd, .fields vs, ccs⟩) (hvs : vs[2]? = some (.str file tf)) (hfile : ((P.main.file : Str) == file) = true)
    (hcell : K.lookup cc = some ⟨cl, cld, .cell (some (.ref C)), csl⟩) (hC : PySem.W.clsIn K C = some cd) (hsub : PySem.W.mroIn K C (.ref C) = some true) (hms : mg "super" = none) (ho : PySem.W.nsIn K cStatics "thirdparty.any" = some none)
    (hvC : PySem.W.typeIn K (.ref C) = some (.type "type")) (hsi : PySem.W.ks_superIn K C C "__init__" = some (some (.builtin "ValueError.__init__"))) (hve : PySem.W.subIn K (.ref C) (.type "ValueError") = some true) (htop : (P.main.scope.names.lookup ("super" : Str)).isSome = false)
    (hpp : (params.posonlyargs ++ params.args).head? = some ar) (hpa : ar.arg = "self")
    (sc1 : scope.names.lookup ("super" : Str) = some .globalImplicit) (sc2 : scope.names.lookup ("__class__" : Str) = some .free) (sc3 : scope.names.lookup ("self" : Str) = some .local) (sc4 : scope.names.lookup ("words" : Str) = some .local) (sc5 : scope.names.lookup f = some .local)
    (sc6 : ∀ x ∈ scope.names, x.2 ≠ .cell) (sck : scope.kind = .function) (sco : scope.isCoroutine = false) (scg : scope.isGenerator = false) (nf1 : f ≠ "self") (nf2 : f ≠ "words") (hfd : (f == ("__debug__" : Str)) = false)
    (hev : ∀ env : Env, eval (.Call (.Attribute (.Call (.Name "super" p0) [] [] p1) "__init__" p2) [.Name "words" p3] [] p4) env = (do
      let ov ← attributeBase (.Call (.Name "super" p0) [] [] p1) "__init__" env (eval (.Call (.Name "super" p0) [] [] p1) env)
      standAt p2.atName
      let (f, first) ← holding [ov] (getMethod ov "__init__" (pl env))
      callWith p4 f first (backTo p4 (starEach [.Name "words" p3] env)) [])) :
    FnOk P w K mg base CX0 k fI (PySem.W.ksFn "__init__" qual params (bodyI f p0 p1 p2 p3 p4 p5 q1 q2 q3 q4) scope .none kV doc pm an (.ref cda) ct cc) ["self", "words", f] (spInit C f) := by
  refine ⟨fun vs H Q E h => ?_, fun A outer s H args us vs Q E hr e0 hb r hsp => ?_⟩
  · obtain ⟨a, w', y, rfl, _⟩ := h
    rfl
  · obtain ⟨a, wv, y, rfl, ha, q⟩ := hsp
    cases r with
    | @cons _ u0 _ r1 h0 r =>
      cases r with
      | @cons _ u1 _ r2 h1 r =>
        cases r with
        | @cons _ u2 _ r3 h2 r =>
          cases r
          cases (show u0 = Value.ref a from h0)
          obtain ⟨t1, he⟩ := exo_at e0.hok ha
          obtain ⟨mb, hb1, hb2⟩ := e0.mod.blt
          obtain ⟨hp, g, d, t, os⟩ := s
          have kb : ∀ b o, base.get? b = some o → hp.get? b = some o := fun b o z => (e0.bs b o z).1
          refine init_run (K := K) (mb := mb) hr.depth (e0.mod.kin.keeps kb) (e0.mod.glob.keeps kb) (hb1.keeps kb) hb2 (e0.mod.nolimit.keeps kb) T hno lf hcd hcode hvs hfile hcell hC hsub hms ho hvC hsi hve htop hpp hpa hb sc1 sc2 sc3 sc4 sc5 sc6 sck sco scg nf1 nf2 hfd hev (fun o z => ?_) he (fun h' tk dx t2 hk hdx hne hx hn => ?_)
          · have z2 := (e0.bs _ _ (e0.mod.kin _ _ z)).2
            rw [ha] at z2
            cases z2
          · have nd : H dx = none := e0.hok.fresh hdx
            refine ⟨.non, upd (upd H dx (exd dx [(f, y)])) a (exo a C (some dx)), rfl, e0.bare, ?_, ?_, rfl, q dx nd hne⟩
            · have na : ∀ {b : Addr}, H b = none → b ≠ a := fun {b} z y => by
                rw [y, ha] at z
                cases z
              refine ⟨fun b o z n _ _ => hk b o (na n) z, fun b o z n _ _ => ⟨o.slots, hk b o (na n) z⟩, fun b o z n _ => ?_, fun b o z _ => ?_, fun b xs z => ?_, fun b o u z => ?_, fun b ps z => ⟨#[], ?_⟩⟩
              · have nb : b ≠ dx := Nat.ne_of_lt (Nat.lt_of_lt_of_le (Heap.lt_size z) hdx)
                rw [upd_ne (na n), upd_ne nb]
                exact n
              · by_cases hb' : b = a
                · rw [hb']
                  exact ⟨_, hx⟩
                · exact ⟨o, hk b o hb' z⟩
              · rw [upd_ne (at_ne ha z exo_tup), upd_ne (ne_of_none z nd)]
                exact z
              · rw [upd_ne (at_ne ha z exo_frz), upd_ne (ne_of_none z nd)]
                exact z
              · rw [upd_ne (at_ne ha z exo_tbl), upd_ne (ne_of_none z nd), z]
                simp
            · intro b o z
              by_cases b1 : b = a
              · rw [b1, upd_same] at z
                cases z
                rw [b1]
                exact exo_ok hx
              · rw [upd_ne b1] at z
                by_cases b2 : b = dx
                · rw [b2, upd_same] at z
                  cases z
                  rw [b2]
                  exact exd_ok hn (relO_put (fs := []) h2 fun g => True.intro)
                · rw [upd_ne b2] at z
                  refine (e0.hok b o z).stay (fun c v hc z' => hk c v ?_ z') (fun c hc => ?_) (fun c xs hc => ?_)
                  · rcases hc with hc | hc
                    · rw [hc]
                      exact b1
                    · exact at_ne ha hc exo_own
                  · rw [upd_ne (at_ne ha hc exo_own), upd_ne (ne_of_none hc nd)]
                    exact hc
                  · rw [upd_ne (at_ne ha hc exo_tup), upd_ne (ne_of_none hc nd)]
                    exact hc
end
end XI

set_option maxHeartbeats 2000000
namespace XI
open PySem PySem.Spec PyProof.Rows L2 GX GxR My
section
variable {X : Cx} {e : Expr} {es : List Expr} {ta : TA} {te : TE} {p pos : Pos} {C fI : Addr} {f x : Str} {k : Nat} {fd : FuncData}
/-- C(words, y) as a value: an exception with its one field -/
def tMkE (C : Addr) (f : Str) (ta : TA) : TE := fun σ H Q => ta σ H fun vs H1 => ∃ w y, vs = [w, y] ∧ ∀ a d, H1 a = none → H1 d = none → d ≠ a → Q (.ref a) (upd (upd H1 d (exd d [(f, y)])) a (exo a C (some d)))
theorem pe_mkE (T : OexC X.K C) (iC : PySem.W.findIn X.K (.ref C) "__init__" = some (some (.ref fI))) (tI : PySem.W.typeIn X.K (.ref fI) = some (.type "function"))
    (F1 : FnOk X.prog X.w X.K X.mg X.base CX0 k fI fd ["self", "words", f] (spInit C f)) (hr : Room (k + 1) X.A) (hb : Binds X.K fd ["self", "words", f] []) (hg : Gl X x) (hm : X.mg x = some (.ref C)) (ha : PA X (e :: es) ta)
    (hdb : (x == ("__debug__" : Str)) = false := by decide) (he : starEach (e :: es) X.env = (false, eval e X.env) :: starEach es X.env := by rfl) (hpl : (backTo pos (starEach es X.env)).any (·.1) = false := by rfl) :
    PE X (.Call (.Name x p) (e :: es) [] pos) (tMkE C f ta) := by
  refine ⟨fun pins s σ H Q I h => ?_⟩
  obtain ⟨nm, q, N, bs, bm, sn, sub, ab, col, dd, k0, k1, k2, k3, k5, hC, hbm⟩ := T.cls
  refine wpAny_Call_Name_kw (ld_glob I hg hm ?_ hdb)
  refine PySem.W.callWith_K (h₀ := X.base) I.ok.mod.kin T.kC (thn (ha.run pos pins s σ H _ I h) fun us s1 ⟨vs, H1, I1, r1, w', y, ev, q1⟩ => ⟨I1.kIn, ?_⟩) he hpl
  subst ev
  show wpAny _ _ (call (.ref C) us) _ _ _
  obtain ⟨hp, g, dr, tk, os⟩ := s1
  have nw : H1 (hp.objs.size + 1) = none := I1.hok.fresh (Nat.le_succ _)
  have up : ∀ b o, hp.get? b = some o → ((hp.push (PySem.W.kdv_tup us)).push (PySem.HandSPX.excO C hp.objs.size)).get? b = some o := fun b o z => Heap.get?_push_of_some _ (Heap.get?_push_of_some _ z)
  have at1 : ((hp.push (PySem.W.kdv_tup us)).push (PySem.HandSPX.excO C hp.objs.size)).get? (hp.objs.size + 1) = some (PySem.HandSPX.excO C hp.objs.size) := by heap_get
  have J : Inv X pins σ (upd H1 (hp.objs.size + 1) (exo (hp.objs.size + 1) C none)) ⟨(hp.push (PySem.W.kdv_tup us)).push (PySem.HandSPX.excO C hp.objs.size), g, dr, tk, os⟩ :=
    I1.laid (t' := tk) (o := exo (hp.objs.size + 1) C none) up (Nat.le_succ _) (exo_ok at1)
  have lus : us.length = 2 := (Paired.length r1).symm
  have rr : Vals [.ref (hp.objs.size + 1), w', y] (Value.ref (hp.objs.size + 1) :: us) := .cons rfl r1
  refine wpAny_call (PySem.HandSPX.call_own F.excBase_ValueError (fun Y => PySem.HandSPX.refsVE_contains Y bm hbm) (I1.kIn _ _ hC) (PySem.W.looks_findIn I1.kIn iC) (fun self => PySem.W.bind_fn I1.kIn self tI) (by rw [lus, sizeLine_eq]; omega) ?_)
  have bb := hb _ (Value.ref (hp.objs.size + 1) :: us) J.kIn (by show (us ++ []).length + 1 = 3; rw [List.append_nil, lus])
  rw [List.append_nil] at bb
  refine codeAny_mono (F1.run _ X.stack _ _ ⟨Value.ref (hp.objs.size + 1) :: us, []⟩ (Value.ref (hp.objs.size + 1) :: us) _ (fun v H2 => v = .non ∧ Q (.ref (hp.objs.size + 1)) H2) (fun _ _ _ => False) (hr.make C us []) (J.env0.make C us []) bb rr
    ⟨_, w', y, rfl, upd_same, fun dx n1 n2 => ⟨rfl, ?_⟩⟩) (fun r s' hq' => ?_)
  · rw [upd_ne n2] at n1
    have q2 := q1 _ dx nw n1 n2
    have eq : upd (upd (upd H1 (hp.objs.size + 1) (exo (hp.objs.size + 1) C none)) dx (exd dx [(f, y)])) (hp.objs.size + 1) (exo (hp.objs.size + 1) C (some dx)) = upd (upd H1 dx (exd dx [(f, y)])) (hp.objs.size + 1) (exo (hp.objs.size + 1) C (some dx)) := by
      funext b
      by_cases b1 : b = hp.objs.size + 1
      · rw [b1, upd_same, upd_same]
      · rw [upd_ne b1, upd_ne b1]
        by_cases b2 : b = dx
        · rw [b2, upd_same, upd_same]
        · rw [upd_ne b2, upd_ne b2, upd_ne b1]
    rw [eq]
    exact q2
  · cases r with
    | error er => exact hq'.elim
    | ok fl =>
      cases fl with
      | ret u =>
        obtain ⟨v, H2, J2, rv, ev, q2⟩ := J.after hq'
        subst ev
        exact ⟨rv, .ref (hp.objs.size + 1), H2, J2, rfl, q2⟩
      | next => exact hq'.elim
      | brk => exact hq'.elim
      | cont => exact hq'.elim
/-- an exception of the class at C, held as a value -/
def IsE (H : Hp) (C : Addr) (v : V) : Prop := ∃ a, v = .ref a ∧ (H a = some (ExO (.ref C) a) ∨ ∃ d fs, H a = some (exo a C (some d)) ∧ H d = some (exd d fs))
theorem IsE.same {H H' : Hp} {C : Addr} {v : V} (s : Same H H') (h : IsE H C v) : IsE H' C v := by
  obtain ⟨a, e, h | ⟨d, fs, h1, h2⟩⟩ := h
  · exact ⟨a, e, .inl (s _ _ h)⟩
  · exact ⟨a, e, .inr ⟨d, fs, s _ _ h1, s _ _ h2⟩⟩
theorem IsE.inst {P : Program} {w : World} {H : Hp} {h : Heap} {C : Addr} {v : V} (ok : HOk P w H h) (z : IsE H C v) : ∃ a oe od, v = .ref a ∧ PySem.W.InstAt h a oe C od := by
  obtain ⟨a, rfl, z | ⟨d, fs, h1, h2⟩⟩ := z
  · have y : ObjOk P w H h a (.ext fun h => ∃ (oe : Obj) (vs : Array Value), h.get? a = some oe ∧ Zc (.ref C) none oe ∧ oe.data = .fields vs ∧ vs[1]? = some .none ∧ vs[2]? = some .none ∧ 4 < vs.size) := ok a _ z
    obtain ⟨⟨oe, vs, ho, hz, hd, _⟩, _⟩ := y
    refine ⟨a, oe, none, rfl, ?_⟩
    obtain ⟨oc, od, oda, osl⟩ := oe
    obtain ⟨z1, z2⟩ := hz
    dsimp only at z1 z2 hd
    subst z1 z2 hd
    exact ⟨ho, rfl, rfl, trivial⟩
  · obtain ⟨t0, ho⟩ := exo_at ok h1
    obtain ⟨mA, ⟨o, es, ep, hd, _⟩, _⟩ := exd_at ok h2
    exact ⟨a, _, some o, rfl, ho, rfl, rfl, hd⟩
/-- isinstance(v, c), v such an exception -/
def rIsX (K : PySem.W.Frag) : List V → Hp → VK → Prop := fun xs H Q => ∃ (v c : V) (C : Addr) (cv : Value) (b : Bool), xs = [v, c] ∧ IsE H C v ∧ ExcC K C ∧ (∀ u, RelV c u → u = cv) ∧ PySem.W.kitOne K (.ref C) cv = some b ∧ Q (.bl b) H
theorem call_isX : CallR X (.builtin "isinstance") (rIsX X.K) := by
  intro pins s σ H xs us Q I r h
  obtain ⟨v, c, C, cv, b, rfl, hE, T, hc, e, q⟩ := h
  cases r with
  | cons rx rr =>
    cases rr with
    | cons rt rr =>
      cases rr
      have ec := hc _ rt
      subst ec
      obtain ⟨a, oe, od, rfl, J⟩ := hE.inst I.hok
      cases rx
      have hcl : (PySem.W.clsIn X.K C).isSome = true := by
        obtain ⟨cd, h1, _⟩ := PySem.W.any_some T.hd
        rw [h1]
        rfl
      exact PySem.W.kia_one (PySem.W.kitx_exc hcl T.hg T.hk T.hs T.ha T.hn T.ht T.hm) I.kIn J e (fun z => nomatch z) fun tk => ⟨.bl b, H, I.kept (t' := tk) fun _ _ z => z, rfl, q⟩
/-- v.n, v an exception with its dict -/
def tFld (K : PySem.W.Frag) (n : Str) (te : TE) : TE := fun σ H Q => te σ H fun x H1 => ∃ (a C d : Addr) (fs : List (Str × V)) (v : V), x = .ref a ∧ XfC K C ∧ PySem.W.findIn K (.ref C) n = some none ∧ H1 a = some (exo a C (some d)) ∧ H1 d = some (exd d fs) ∧ fs.lookup n = some v ∧ Q v H1
theorem pe_fld {n : Str} (he : PE X e te) (hb : attributeBase e n X.env (eval e X.env) = eval e X.env := by rfl) : PE X (.Attribute e n pos) (tFld X.K n te) := by
  refine ⟨fun pins s σ H Q I h => ?_⟩
  refine attr_of hb (thn (he.run pins s σ H _ I h) fun u s1 hh => ?_)
  obtain ⟨x, H1, I1, rx, a, C, d, fs, v, ex, T, hno, ha, hd, l, q⟩ := hh
  subst ex
  obtain rfl : u = Value.ref a := rx
  obtain ⟨t0, ho⟩ := exo_at I1.hok ha
  obtain ⟨mA, hns, rel⟩ := exd_at I1.hok hd
  obtain ⟨o1, ho1, hl⟩ := lookIn_ns hns
  obtain ⟨u, hu, ru⟩ := RelO.some_of (v := v) (o := mA n) (by rw [← l]; exact rel n)
  have J : PySem.W.InstAt s1.heap a _ C (some o1) := ⟨ho, rfl, rfl, ho1⟩
  exact HandSPX.exc_get I1.kIn J T.ga T.gg T.exC (PySem.W.findObj_own T.hdC hno rfl (by rw [hl, hu])) (handed_of ru) ⟨v, H1, I1.tok _, ru, q⟩
end
end XI

namespace XI
open PySem PySem.Spec PyProof.Rows L2 GX GxR My
theorem pmk_imp {X : Cx} {e : Expr} {t t' : L2.St → Hp → XK → Prop} (h : PMk X e t) (k : ∀ σ H Q, t' σ H Q → t σ H Q) : PMk X e t' := fun pins s σ H Q I q => h pins s σ H Q I (k σ H Q q)
/-- raise C(words, y): the exception's dict stands at d -/
def tRaiseE (C : Addr) (f : Str) (ta : TA) : L2.St → Hp → XK → Prop := fun σ H Q => ta σ H fun vs H1 => ∃ w y, vs = [w, y] ∧ ∀ d, H1 d = none → Q (.ref C) (some d) (upd H1 d (.xd [(f, y)]))
theorem pmk_initE {X : Cx} {x : Str} {e : Expr} {es : List Expr} {ta : TA} {p pos : Pos} {C fI : Addr} {k : Nat} {fd : FuncData} {f : Str} {CX : CXT} (hta : ∀ σ H (Q Q' : List V → Hp → Prop), (∀ vs H1, Q vs H1 → Q' vs H1) → ta σ H Q → ta σ H Q')
    (T : OexC X.K C) (iC : PySem.W.findIn X.K (.ref C) "__init__" = some (some (.ref fI))) (tI : PySem.W.typeIn X.K (.ref fI) = some (.type "function"))
    (F1 : FnOk X.prog X.w X.K X.mg X.base CX k fI fd ["self", "words", f] (spInit C f)) (hr : Room (k + 1) X.A) (hb : Binds X.K fd ["self", "words", f] []) (hx : Passes CX X (fun _ _ _ => False)) (hg : Gl X x) (hm : X.mg x = some (.ref C)) (ha : PA X (e :: es) ta)
    (hdb : (x == ("__debug__" : Str)) = false := by decide) (he : starEach (e :: es) X.env = (false, eval e X.env) :: starEach es X.env := by rfl) (hpl : (backTo pos (starEach es X.env)).any (·.1) = false := by rfl) :
    PMk X (.Call (.Name x p) (e :: es) [] pos) (tRaiseE C f ta) := by
  refine pmk_imp (pmk_oex T iC tI F1 hr hb .nil hx hg hm ha hdb he hpl) fun σ H Q h => ?_
  refine hta σ H _ _ (fun vs H1 h1 => ?_) h
  obtain ⟨w', y, rfl, q⟩ := h1
  refine ⟨by show 2 ≤ 1000; decide, fun a na => ⟨a, w', y, rfl, upd_same, fun dx n1 n2 => ⟨rfl, dx, [(f, y)], upd_same, ?_, ?_, ?_⟩⟩⟩
  · rw [upd_ne n2, upd_same]
  · rw [upd_ne n2] at n1
    exact n1
  · rw [upd_ne n2] at n1
    have e : upd (del (upd (upd (upd H1 a (exo a C none)) dx (exd dx [(f, y)])) a (exo a C (some dx))) a) dx (.xd [(f, y)]) = upd H1 dx (.xd [(f, y)]) := by
      funext b
      by_cases b1 : b = dx
      · rw [b1, upd_same, upd_same]
      · rw [upd_ne b1, upd_ne b1]
        by_cases b2 : b = a
        · rw [b2, del_same, na]
        · rw [del_ne b2, upd_ne b2, upd_ne b1, upd_ne b2]
    rw [e]
    exact q dx n1
end XI

namespace My
open PySem PySem.W PySem.Spec PyProof.Rows L2 GX GxR
/-- an own exception's class, over ValueError, with no __init__ of its own -/
structure ExcP (K : PySem.W.Frag) (mg : Str → Option Value) (nam : Str) (C : Addr) : Prop where
  x : excIn K C [.type "ValueError", .type "Exception", .type "BaseException", .type "object"] "ValueError.__new__" = true
  g : mg nam = some (.ref C)
  k : keepIn K (.ref C) = true
  b : subIn K (.ref C) (.type "BaseException") = some true
  t : typeIn K (.ref C) = some (.type "type")
/-- the entry of a key -/
def spEOf (C N : Addr) : Sp := fun vs H Q E => ∃ (a dx m d : Addr) (lv : V) (ps : List (Key × V)) (room : List Int) (rs : List Bw) (z : Str), vs = [.ref a, .str z] ∧ BookAt H C a dx m d lv ps room rs ∧ z.length ≤ 100 ∧
  (∀ r x, valV ps (Sum.inr z) = some (.ref r) → BwAt H r x → x ∈ rs → x.key = z → Q (.ref r) H) ∧ (z ∉ rs.map (·.key) → E (.ref N) none H)
theorem BookAt.none {H : Hp} {C a dx m d : Addr} {lv : V} {ps : List (Key × V)} {room : List Int} {rs : List Bw} (B : BookAt H C a dx m d lv ps room rs) {z : Str} (h : valV ps (Sum.inr z) = none) : z ∉ rs.map (·.key) := fun hz => by
  obtain ⟨r, x, h1, _⟩ := B.get hz
  rw [h] at h1
  cases h1
theorem BookAt.some {H : Hp} {C a dx m d : Addr} {lv : V} {ps : List (Key × V)} {room : List Int} {rs : List Bw} (B : BookAt H C a dx m d lv ps room rs) {z : Str} {v : V} (h : valV ps (Sum.inr z) = some v) : z ∈ rs.map (·.key) := by
  have h1 : (ps.any fun kv => decide (kv.1 = (Sum.inr z : Key))) = true := by
    rw [valV_any, h]
    rfl
  obtain ⟨kv, m1, m2⟩ := List.any_eq_true.mp h1
  have : kv.1 ∈ ps.map (·.1) := List.mem_map.mpr ⟨kv, m1, rfl⟩
  rw [en_keys B.prs, of_decide_eq_true m2] at this
  obtain ⟨z', h2, h3⟩ := List.mem_map.mp this
  injection h3 with h3
  rw [← h3]
  exact h2
/-! a book's entries changed -/
theorem drop_pairs {H : Hp} {z : Str} : ∀ {ps : List (Key × V)} {rs : List Bw}, Paired (EnAt H) ps rs → Paired (EnAt H) (dropK ps (Sum.inr z)) (rs.filter fun x => decide (x.key ≠ z))
  | _, _, .nil => .nil
  | p :: ps, x :: rs, .cons h t => by
    have ih := drop_pairs (z := z) t
    unfold dropK at ih ⊢
    by_cases e : x.key = z
    · have e1 : ¬ (decide (p.1 ≠ (Sum.inr z : Key)) = true) := by
        rw [decide_eq_true_eq, h.1, e]
        exact fun q => q rfl
      have e2 : ¬ (decide (x.key ≠ z) = true) := by
        rw [decide_eq_true_eq]
        exact fun q => q e
      rw [List.filter_cons, List.filter_cons, if_neg e1, if_neg e2]
      exact ih
    · have e1 : decide (p.1 ≠ (Sum.inr z : Key)) = true := by
        rw [decide_eq_true_eq, h.1]
        exact fun q => e (by injection q)
      have e2 : decide (x.key ≠ z) = true := decide_eq_true e
      rw [List.filter_cons, List.filter_cons, if_pos e1, if_pos e2]
      exact .cons h ih
def putR (rs : List Bw) (x : Bw) : List Bw := if x.key ∈ rs.map (·.key) then rs.map (fun y => if y.key = x.key then x else y) else rs ++ [x]
theorem set_pairs {H : Hp} {x : Bw} {r : Addr} (hr : BwAt H r x) : ∀ {ps : List (Key × V)} {rs : List Bw}, Paired (EnAt H) ps rs → Paired (EnAt H) (ps.map fun kv => if kv.1 = (Sum.inr x.key : Key) then (kv.1, V.ref r) else kv) (rs.map fun y => if y.key = x.key then x else y)
  | _, _, .nil => .nil
  | p :: ps, y :: rs, .cons h t => by
    have ih := set_pairs hr t
    rw [List.map_cons, List.map_cons]
    refine .cons ?_ ih
    by_cases e : y.key = x.key
    · rw [if_pos e, if_pos (by rw [h.1, e])]
      exact ⟨by rw [h.1, e], r, rfl, hr⟩
    · rw [if_neg e, if_neg (by rw [h.1]; exact fun q => e (by injection q))]
      exact h
theorem put_pairs {H : Hp} {x : Bw} {r : Addr} {ps : List (Key × V)} {rs : List Bw} (hr : BwAt H r x) (h : Paired (EnAt H) ps rs) : Paired (EnAt H) (putK ps (Sum.inr x.key) (.ref r)) (putR rs x) := by
  have any : (ps.any fun kv => decide (kv.1 = (Sum.inr x.key : Key))) = true ↔ x.key ∈ rs.map (·.key) := by
    rw [List.any_eq_true]
    constructor
    · rintro ⟨kv, h1, h2⟩
      have : (Sum.inr x.key : Key) ∈ ps.map (·.1) := List.mem_map.mpr ⟨kv, h1, of_decide_eq_true h2⟩
      rw [en_keys h] at this
      obtain ⟨z, h3, h4⟩ := List.mem_map.mp this
      injection h4 with h4
      rw [← h4]
      exact h3
    · intro hk
      have : (Sum.inr x.key : Key) ∈ ps.map (·.1) := by
        rw [en_keys h]
        exact List.mem_map.mpr ⟨_, hk, rfl⟩
      obtain ⟨kv, h1, h2⟩ := List.mem_map.mp this
      exact ⟨kv, h1, decide_eq_true h2⟩
  unfold putK putR
  by_cases e : x.key ∈ rs.map (·.key)
  · rw [if_pos (any.mpr e), if_pos e]
    exact set_pairs hr h
  · rw [if_neg fun z => e (any.mp z), if_neg e]
    exact Paired.snoc h ⟨rfl, r, rfl, hr⟩
theorem putR_keys {rs : List Bw} {x : Bw} : (putR rs x).map (·.key) = if x.key ∈ rs.map (·.key) then rs.map (·.key) else rs.map (·.key) ++ [x.key] := by
  unfold putR
  split
  · rw [List.map_map]
    refine List.map_congr_left fun y _ => ?_
    show (if y.key = x.key then x else y).key = y.key
    split
    · rename_i e
      exact e.symm
    · rfl
  · rw [List.map_append]
    rfl
theorem putR_nd {rs : List Bw} {x : Bw} (h : (rs.map (·.key)).Nodup) : ((putR rs x).map (·.key)).Nodup := by
  rw [putR_keys]
  split
  · exact h
  · rename_i e
    rw [List.nodup_append]
    refine ⟨h, by simp, fun a ha b hb z => e ?_⟩
    rw [← List.mem_singleton.mp hb, ← z]
    exact ha
theorem putR_mem {rs : List Bw} {x y : Bw} (h : y ∈ putR rs x) : y ∈ rs ∨ y = x := by
  unfold putR at h
  split at h
  · obtain ⟨z, hz, e⟩ := List.mem_map.mp h
    split at e
    · exact .inr e.symm
    · exact .inl (by rw [← e]; exact hz)
  · rcases List.mem_append.mp h with z | z
    · exact .inl z
    · exact .inr (List.mem_singleton.mp z)
/-- an entry gone -/
def spDrop (C N : Addr) : Sp := fun vs H Q E => ∃ (a dx m d : Addr) (lv : V) (ps : List (Key × V)) (room : List Int) (rs : List Bw) (z : Str), vs = [.ref a, .str z] ∧ BookAt H C a dx m d lv ps room rs ∧ z.length ≤ 100 ∧
  (z ∈ rs.map (·.key) → ∀ H' ps', Kp [a, d] H H' → BookAt H' C a dx m d .non ps' room (rs.filter fun x => decide (x.key ≠ z)) → Q .non H') ∧ (z ∉ rs.map (·.key) → E (.ref N) none H)
theorem BookAt.ad {H : Hp} {C a dx m d : Addr} {lv : V} {ps : List (Key × V)} {room : List Int} {rs : List Bw} (B : BookAt H C a dx m d lv ps room rs) : a ≠ d ∧ m ≠ a ∧ m ≠ d := by
  refine ⟨fun z => ?_, fun z => ?_, fun z => ?_⟩
  · have := B.obj
    rw [z, B.en] at this
    cases this
  · have := B.rm
    rw [z, B.obj] at this
    cases this
  · have := B.rm
    rw [z, B.en] at this
    cases this
/-- a book whose entries and lefts were set anew -/
theorem BookAt.set {H : Hp} {C a dx m d : Addr} {lv : V} {ps ps' : List (Key × V)} {room : List Int} {rs rs' : List Bw} (B : BookAt H C a dx m d lv ps room rs) (pr : Paired (EnAt H) ps' rs') (nd : (rs'.map (·.key)).Nodup) (few : rs'.length < 110) (ok : BwOk room.length rs') :
    Kp [a, d] H (upd (upd H d (.dK ps')) a (.ins C dx (flds m d .non))) ∧ BookAt (upd (upd H d (.dK ps')) a (.ins C dx (flds m d .non))) C a dx m d .non ps' room rs' := by
  obtain ⟨ad, ma, md⟩ := B.ad
  have k1 : KTu H (upd H d (.dK ps')) := kt_put B.en (fun xs z => by cases z)
  have k2 : KTu (upd H d (.dK ps')) (upd (upd H d (.dK ps')) a (.ins C dx (flds m d .non))) := kt_put (by rw [upd_ne ad]; exact B.obj) (fun xs z => by cases z)
  refine ⟨fun x o nx e => ?_, upd_same, ?_, ?_, pr.mono fun _ _ x => x.kt (k1.trans k2), nd, few, ok, B.r1, B.r20⟩
  · rw [upd_ne fun z => nx (by rw [z]; exact List.mem_cons_self), upd_ne fun z => nx (by rw [z]; exact List.mem_cons_of_mem _ (List.mem_singleton.mpr rfl))]
    exact e
  · exact k2 _ _ (k1 _ _ B.rm)
  · rw [upd_ne ad.symm, upd_same]
/-! readings that hand on -/
def MonoE (t : TE) : Prop := ∀ σ H (Q Q' : VK), (∀ v H1, Q v H1 → Q' v H1) → t σ H Q → t σ H Q'
theorem mono_C {v : V} : MonoE (tC v) := fun _ _ _ _ h q => h _ _ q
theorem mono_var {i : Nat} : MonoE (tVar i) := fun _ _ _ _ h q => by
  obtain ⟨x, e, q⟩ := q
  exact ⟨x, e, h _ _ q⟩
theorem mono_fmt {te : TE} (m : MonoE te) : MonoE (tFmt te) := fun σ H Q Q' h q => m σ H _ _ (fun v H1 z => by
  rcases z with ⟨y, e, l, z⟩ | ⟨i, e, l, z⟩
  · exact .inl ⟨y, e, l, h _ _ z⟩
  · exact .inr ⟨i, e, l, h _ _ z⟩) q
theorem mono_js : ∀ {ts : List TE}, (∀ t ∈ ts, MonoE t) → ∀ acc σ H (Q Q' : Str → Hp → Prop), (∀ o H1, Q o H1 → Q' o H1) → tJs ts acc σ H Q → tJs ts acc σ H Q'
  | [], _, _, _, _, _, _, h, q => h _ _ q
  | t :: ts, m, acc, σ, H, Q, Q', h, q => m t List.mem_cons_self σ H _ _ (fun v H1 z => by
    obtain ⟨y, e, l, z⟩ := z
    exact ⟨y, e, l, mono_js (fun t ht => m t (List.mem_cons_of_mem _ ht)) _ σ H1 Q Q' h z⟩) q
theorem mono_joined4 {a b c d : TE} (ha : MonoE a) (hb : MonoE b) (hc : MonoE c) (hd : MonoE d) : MonoE (fun σ H Q => tJs [a, b, c, d] Str.empty σ H fun out H1 => Q (.str out) H1) := fun σ H Q Q' h q =>
  mono_js (fun t ht => by
    rcases List.mem_cons.mp ht with z | ht
    · rw [z]; exact ha
    · rcases List.mem_cons.mp ht with z | ht
      · rw [z]; exact hb
      · rcases List.mem_cons.mp ht with z | ht
        · rw [z]; exact hc
        · rw [List.mem_singleton.mp ht]; exact hd) _ σ H _ _ (fun o H1 z => h _ _ z) q
theorem mono_two {a b : TE} (ha : MonoE a) (hb : MonoE b) (σ : L2.St) (H : Hp) (Q Q' : List V → Hp → Prop) (h : ∀ vs H1, Q vs H1 → Q' vs H1) (q : tCons a (tCons b tNil) σ H Q) : tCons a (tCons b tNil) σ H Q' :=
  ha σ H _ _ (fun v H1 z => hb σ H1 _ _ (fun v2 H2 z2 => h _ _ z2) z) q
/-- the class of what is too much -/
structure ExcT (P : Program) (w : World) (K : PySem.W.Frag) (mg : Str → Option Value) (base : Heap) (k : Nat) (C fI : Addr) (fd : FuncData) : Prop where
  T : OexC K C
  iC : findIn K (.ref C) "__init__" = some (some (.ref fI))
  tI : typeIn K (.ref fI) = some (.type "function")
  F : FnOk P w K mg base CX0 k fI fd ["self", "words", "time"] (XI.spInit C "time")
  b : L2.Binds K fd ["self", "words", "time"] []
  g : mg "TooMuch" = some (.ref C)
/-- the others and the new one -/
def withX (rs : List Bw) (x : Bw) : List Bw := rs.filter (fun y => decide (y.key ≠ x.key)) ++ [x]
/-- what is wished for where x is to be kept in the book at a -/
def KeepC (Ts : List Addr) (C TM a dx m d : Addr) (room : List Int) (rs : List Bw) (x : Bw) (H : Hp) (Q : VK) (E : XK) : Prop := x.key.length ≤ 100 ∧
  BwOk room.length (withX rs x) ∧ (putR rs x).length < 110 ∧ BwOk room.length (putR rs x) ∧ (∀ n ∈ room, 0 ≤ n) ∧ (∀ y ∈ withX rs x, y.b.natAbs.log2 < 1920 ∧ y.e.natAbs.log2 < 1920) ∧ Tabs Ts H ∧
  (∀ H' ks ps', Srt (withX rs x) ks → ks.find? (ovr room.length (withX rs x) room) = none → Kp (a :: d :: Ts) H H' → Tabs Ts H' → BookAt H' C a dx m d .non ps' room (putR rs x) → Q .non H') ∧
  (∀ H' ks t dE, Srt (withX rs x) ks → ks.find? (ovr room.length (withX rs x) room) = some t → Fw Ts H H' → H dE = none → H' dE = some (.xd [("time", .int t)]) → E (.ref TM) (some dE) H')
theorem KeepC.same {Ts : List Addr} {C TM a dx m d : Addr} {room : List Int} {rs : List Bw} {x : Bw} {H H1 : Hp} {Q Q1 : VK} {E E1 : XK} (s : Same H H1) (hQ : ∀ H', Q .non H' → Q1 .non H') (hE : ∀ cl o H', E cl o H' → E1 cl o H') (h : KeepC Ts C TM a dx m d room rs x H Q E) : KeepC Ts C TM a dx m d room rs x H1 Q1 E1 := by
  obtain ⟨kl, okW, few, okP, nn, bnd, tH, q, qe⟩ := h
  refine ⟨kl, okW, few, okP, nn, bnd, (Fw.same tH s).tabs, fun H' ks ps' h1 h2 h3 h4 h5 => hQ _ (q H' ks ps' h1 h2 ((Same.kp _ s).trans h3) h4 h5), fun H' ks t dE h1 h2 h3 h4 h5 => hE _ _ _ (qe H' ks t dE h1 h2 ((Fw.same tH s).trans h3) (s.free h4) h5)⟩
def spKeep (K : PySem.W.Frag) (Ts : List Addr) (C TM : Addr) : Sp := fun vs H Q E => ∃ (a dx m d : Addr) (lv : V) (ps : List (Key × V)) (room : List Int) (rs : List Bw) (r : Addr) (x : Bw), vs = [.ref a, .ref r] ∧ BookAt H C a dx m d lv ps room rs ∧ BwAt H r x ∧
  KeepC Ts C TM a dx m d room rs x H Q E
def spPut (K : PySem.W.Frag) (Ts : List Addr) (C TM TK : Addr) : Sp := fun vs H Q E => ∃ (a dx m d : Addr) (lv : V) (ps : List (Key × V)) (room : List Int) (rs : List Bw) (p : Addr) (x : Bw), vs = [.ref a, .str x.key, .int x.b, .int x.e, .ref p] ∧ BookAt H C a dx m d lv ps room rs ∧ H p = some (.tup (x.am.map V.int)) ∧ x.key.length ≤ 100 ∧
  (x.key ∈ rs.map (·.key) → E (.ref TK) none H) ∧ (x.key ∉ rs.map (·.key) → KeepC Ts C TM a dx m d room rs x H Q E)
def spStretch (K : PySem.W.Frag) (Ts : List Addr) (C TM N : Addr) : Sp := fun vs H Q E => ∃ (a dx m d : Addr) (lv : V) (ps : List (Key × V)) (room : List Int) (rs : List Bw) (z : Str) (e : Int), vs = [.ref a, .str z, .int e] ∧ BookAt H C a dx m d lv ps room rs ∧ z.length ≤ 100 ∧
  (z ∉ rs.map (·.key) → E (.ref N) none H) ∧ (∀ x ∈ rs, x.key = z → (x.e < e → KeepC Ts C TM a dx m d room rs ⟨x.key, x.b, e, x.am⟩ H Q E) ∧ (¬ x.e < e → ∀ H', Same H H' → Q .non H'))
def spCut (C N : Addr) : Sp := fun vs H Q E => ∃ (a dx m d : Addr) (lv : V) (ps : List (Key × V)) (room : List Int) (rs : List Bw) (z : Str) (t : Int), vs = [.ref a, .str z, .int t] ∧ BookAt H C a dx m d lv ps room rs ∧ z.length ≤ 100 ∧
  (z ∉ rs.map (·.key) → E (.ref N) none H) ∧ (∀ x ∈ rs, x.key = z → (t ≤ x.b → ∀ H' ps', Kp [a, d] H H' → BookAt H' C a dx m d .non ps' room (rs.filter fun x => decide (x.key ≠ z)) → Q .non H') ∧
    (x.b < t → t < x.e → BwOk room.length (putR rs ⟨x.key, x.b, t, x.am⟩) ∧ ∀ H' ps', Kp [a, d] H H' → BookAt H' C a dx m d .non ps' room (putR rs ⟨x.key, x.b, t, x.am⟩) → Q .non H') ∧ (x.b < t → x.e ≤ t → ∀ H', Same H H' → Q .non H'))
/-- a new book -/
def spBInit (C : Addr) : Sp := fun vs H Q _ => ∃ (a dx m : Addr), vs = [.ref a, .ref m] ∧ H a = some (.ins C dx []) ∧
  ∀ d H', Kp [a] H H' → H' a = some (.ins C dx (flds m d .non)) → H d = none → H' d = some (.dK []) → Q .non H'
def lateB (t : Int) (x : Bw) : Bool := !decide (x.e ≤ t)
def spPast (K : PySem.W.Frag) (C : Addr) : Sp := fun vs H Q _ => ∃ (a dx m d : Addr) (lv : V) (ps : List (Key × V)) (room : List Int) (rs : List Bw) (t : Int), vs = [.ref a, .int t] ∧ BookAt H C a dx m d lv ps room rs ∧ (∀ x ∈ rs, x.key.length ≤ 100) ∧
  ∀ p H' lv' ps' ss, InKeys rs ss → Kp [a, d] H H' → H p = none → H' p = some (.lst (((ss.filter fun x => decide (x.e ≤ t)).map (·.key)).map V.str)) → BookAt H' C a dx m d lv' ps' room (rs.filter (lateB t)) → (lv' = .non ∨ (lv' = lv ∧ Same H H')) → Q (.ref p) H'
theorem past_filter {rs ss : List Bw} {t : Int} (nd : (rs.map (·.key)).Nodup) (p : ss.Perm rs) : rs.filter (fun x => decide (x.key ∉ (ss.filter fun x => decide (x.e ≤ t)).map (·.key))) = rs.filter (lateB t) := by
  refine List.filter_congr fun x hx => ?_
  unfold lateB
  by_cases e : x.e ≤ t
  · have : x.key ∈ (ss.filter fun x => decide (x.e ≤ t)).map (·.key) := List.mem_map.mpr ⟨x, List.mem_filter.mpr ⟨p.mem_iff.mpr hx, decide_eq_true e⟩, rfl⟩
    rw [decide_eq_true e, decide_eq_false fun z => z this]
    rfl
  · have : x.key ∉ (ss.filter fun x => decide (x.e ≤ t)).map (·.key) := fun z => by
      obtain ⟨y, hy, ey⟩ := List.mem_map.mp z
      obtain ⟨h1, h2⟩ := List.mem_filter.mp hy
      rw [nodup_inj nd y (p.mem_iff.mp h1) x hx ey] at h2
      exact e (of_decide_eq_true h2)
    rw [decide_eq_false e, decide_eq_true this]
    rfl
theorem filter_more {rs : List Bw} {zs : List Str} {z : Str} : (rs.filter fun x => decide (x.key ∉ zs)).filter (fun x => decide (x.key ≠ z)) = rs.filter fun x => decide (x.key ∉ zs ++ [z]) := by
  rw [List.filter_filter]
  refine List.filter_congr fun x _ => ?_
  by_cases e : x.key = z <;> by_cases e2 : x.key ∈ zs <;> simp [e, e2]
theorem putR_len {rs : List Bw} {x : Bw} (h : x.key ∈ rs.map (·.key)) : (putR rs x).length = rs.length := by
  unfold putR
  rw [if_pos h, List.length_map]
theorem putK_len {κ : Type} [DecidableEq κ] {ps : List (κ × V)} {k : κ} {v : V} : (putK ps k v).length ≤ ps.length + 1 := by
  unfold putK
  split
  · rw [List.length_map]
    omega
  · rw [List.length_append]
    exact Nat.le_refl _
end My

set_option maxHeartbeats 1000000
/-! zip of any two iterators of which each gives its next one by its own rule; zip(list, tuple). -/
namespace ZM
open PySem
section
variable {prog : Program} {w : World}
/-- asked for its next one while P stands, the iterator at `it` gives x, alters itself only, and then R stands -/
def Gives (prog : Program) (w : World) (it : Addr) (x : Value) (P R : Heap → Prop) : Prop :=
  ∀ (A : Around) (Q : Value → Shared → Prop) (E : Value → Shared → Prop) (s : Shared), P s.heap → (∀ h', R h' → Heap.SameBut it s.heap h' → Q x { s with heap := h' }) → wpAny (model prog w) A (Builtin.SmallTypes.nextOf (.ref it)) Q E s
/-- asked for its next one while P stands, it has none -/
def Ends (prog : Program) (w : World) (it : Addr) (P : Heap → Prop) : Prop :=
  ∀ (A : Around) (Q : Value → Shared → Prop) (E : Value → Shared → Prop) (s : Shared), A.handled = none → P s.heap → (∀ h' e, Heap.ExtBut it s.heap h' → (∃ o, h'.get? e = some o ∧ o.cls = .type "StopIteration") → E (.ref e) { s with heap := h' }) →
    wpAny (model prog w) A (Builtin.SmallTypes.nextOf (.ref it)) Q E s
/-- P speaks of nothing at c -/
def Off (P : Heap → Prop) (c : Addr) : Prop := ∀ h h', Heap.ExtBut c h h' → P h → P h'
variable {A : Around} {E : Value → Shared → Prop} {s : Shared} {z TI TO i1 i2 : Addr} {x y a b : Value} {P1 R1 P2 R2 : Heap → Prop}

theorem run_item {Q : Value → Shared → Prop} (zTO : TO ≠ z) (z1 : i1 ≠ z) (z2 : i2 ≠ z) (o1 : TO ≠ i1) (o2 : TO ≠ i2) (i12 : i1 ≠ i2)
    (n1 : Gives prog w i1 x P1 R1) (n2 : Gives prog w i2 y P2 R2) (p1z : Off P1 z) (p2z : Off P2 z) (p2o : Off P2 TO) (p2i : Off P2 i1)
    (hz : IsZip s.heap z TI TO .none) (hTI : IsPair s.heap TI (.ref i1) (.ref i2)) (hTO : IsPair s.heap TO a b) (h1 : P1 s.heap) (h2 : P2 s.heap)
    (hQ : ∀ h' h1 h2, IsZip h' z TI TO (rawInt s.heap.objs.size) → IsPair h' TO x y → R1 h1 → (∀ o, h1.get? i1 = some o → h'.get? i1 = some o) → R2 h2 → (∀ o, h2.get? i2 = some o → h'.get? i2 = some o) → IsPair h' s.heap.objs.size x y →
      (∀ c o, c ≠ z → c ≠ TO → c ≠ i1 → c ≠ i2 → s.heap.get? c = some o → h'.get? c = some o) → Q (.ref s.heap.objs.size) { s with heap := h' }) :
    wpAny (model prog w) A (Builtin.«zip.__next__» ⟨[.ref z], []⟩) (fun fin s' => ∃ v, fin = .done (.ret v) ∧ Q v s') E s := by
  show wpAny _ _ (field (.ref z) 2 >>= _) _ _ _
  refine wpAny_bind (wpAny_field hz rfl (x := .bool false) rfl ?_)
  show wpAny _ _ (field (.ref z) 3 >>= _) _ _ _
  refine wpAny_bind (wpAny_field hz rfl (x := .ref TI) rfl (wpAny_bind (wpAny_seqItems hTI rfl ?_)))
  show wpAny _ _ (Builtin.SmallTypes.ownedTupleIsFree (.ref z) >>= _) _ _ _
  refine wpAny_bind ?_
  unfold Builtin.SmallTypes.ownedTupleIsFree
  refine wpAny_bind (wpAny_field hz rfl (x := .none) rfl (wpAny_pure ?_))
  simp only [if_true]
  refine wpAny_bind (wpAny_rule (wpAny_bind (wpAny_field hz rfl (x := .ref TO) rfl (wpAny_bind (wpAny_setField_rec hz (by simp) fun ha za sa => wpAny_bind ?_)))))
  replace za : IsZip ha z TI TO .ellipsis := za
  have xa := sa.extBut
  simp only [List.zipIdx_cons, List.zipIdx_nil, List.forIn_cons, List.forIn_nil]
  refine wpAny_bind (wpAny_bind (wpAny_onRaise ?_))
  show wpAny _ _ (Builtin.SmallTypes.nextOf (.ref i1) >>= _) _ _ _
  refine wpAny_bind (n1 _ _ _ _ (p1z _ _ xa h1) fun hb rb sb => wpAny_pure ?_)
  have xb := sb.extBut
  have tb : IsPair hb TO a b := xb _ _ o1 (xa _ _ zTO hTO)
  refine wpAny_bind (wpAny_seqItems tb rfl (wpAny_bind (wpAny_updateSeq_pair tb fun hc tc sc => wpAny_bind (wpAny_letGo (wpAny_pure ?_)))))
  replace tc : IsPair hc TO x b := tc
  have xc := sc.extBut
  refine wpAny_bind (wpAny_bind (wpAny_onRaise ?_))
  show wpAny _ _ (Builtin.SmallTypes.nextOf (.ref i2) >>= _) _ _ _
  refine wpAny_bind (n2 _ _ _ _ (p2o _ _ xc (p2i _ _ xb (p2z _ _ xa h2))) fun hd rd sd => wpAny_pure ?_)
  have xd := sd.extBut
  have td : IsPair hd TO x b := xd _ _ o2 tc
  refine wpAny_bind (wpAny_seqItems td rfl (wpAny_bind (wpAny_updateSeq_pair td fun he te se => wpAny_bind (wpAny_letGo (wpAny_pure (wpAny_pure ?_))))))
  replace te : IsPair he TO x y := te
  have xe := se.extBut
  have size : he.objs.size = s.heap.objs.size := by rw [se.1, sd.1, sc.1, sb.1, sa.1]
  have ze : IsZip he z TI TO .ellipsis := xe _ _ zTO.symm (xd _ _ z2.symm (xc _ _ zTO.symm (xb _ _ z1.symm za)))
  have zlt : z < he.objs.size := Heap.lt_size ze
  refine wpAny_bind (wpAny_seqItems te rfl (wpAny_bind (wpAny_newTuple ?_)))
  show wpAny _ _ (Builtin.SmallTypes.ownedTupleHandOut (.ref z) (.ref he.objs.size) >>= _) _ _ _
  refine wpAny_bind ?_
  unfold Builtin.SmallTypes.ownedTupleHandOut
  have zf : IsZip (he.push { cls := .type "tuple", data := .seq #[x, y] }) z TI TO .ellipsis := Heap.get?_push_of_some _ ze
  refine wpAny_bind (wpAny_setField_rec zf (by simp) fun hg zg sg => ?_)
  replace zg : IsZip hg z TI TO (rawInt he.objs.size) := zg
  refine wpAny_setField_rec zg (by simp) fun hl zl sl => ?_
  replace zl : IsZip hl z TI TO (rawInt he.objs.size) := zl
  have up : ∀ c o, c ≠ z → (he.push { cls := .type "tuple", data := .seq #[x, y] }).get? c = some o → hl.get? c = some o := fun c o n e => sl.extBut _ _ n (sg.extBut _ _ n e)
  have pair : IsPair hl he.objs.size x y := up _ _ (Nat.ne_of_gt zlt) (Heap.get?_push_size _ rfl)
  have up2 : ∀ c o, c ≠ z → he.get? c = some o → hl.get? c = some o := fun c o n e => up c o n (Heap.get?_push_of_some _ e)
  refine wpAny_pure ⟨_, rfl, ?_⟩
  show Q (.ref he.objs.size) _
  rw [size] at zl pair ⊢
  exact hQ hl hb hd zl (up2 _ _ zTO te) rb (fun o e => up2 _ o z1 (xe _ _ o1.symm (xd _ _ i12 (xc _ _ o1.symm e)))) rd (fun o e => up2 _ o z2 (xe _ _ o2.symm e)) pair
    fun c o c1 c2 c3 c4 e => up2 c o c1 (xe _ _ c2 (xd _ _ c4 (xc _ _ c2 (xb _ _ c3 (xa _ _ c1 e)))))

theorem run_end {Q : Fin → Shared → Prop} (hh : A.handled = none) (z1 : i1 ≠ z) (n1 : Ends prog w i1 P1) (p1z : Off P1 z)
    (hz : IsZip s.heap z TI TO .none) (hTI : IsPair s.heap TI (.ref i1) (.ref i2)) (h1 : P1 s.heap)
    (hE : ∀ h' e, (∀ c o, c ≠ z → c ≠ i1 → s.heap.get? c = some o → h'.get? c = some o) → (∃ o, h'.get? e = some o ∧ o.cls = .type "StopIteration") → E (.ref e) { s with heap := h' }) :
    wpAny (model prog w) A (Builtin.«zip.__next__» ⟨[.ref z], []⟩) Q E s := by
  show wpAny _ _ (field (.ref z) 2 >>= _) _ _ _
  refine wpAny_bind (wpAny_field hz rfl (x := .bool false) rfl ?_)
  show wpAny _ _ (field (.ref z) 3 >>= _) _ _ _
  refine wpAny_bind (wpAny_field hz rfl (x := .ref TI) rfl (wpAny_bind (wpAny_seqItems hTI rfl ?_)))
  show wpAny _ _ (Builtin.SmallTypes.ownedTupleIsFree (.ref z) >>= _) _ _ _
  refine wpAny_bind ?_
  unfold Builtin.SmallTypes.ownedTupleIsFree
  refine wpAny_bind (wpAny_field hz rfl (x := .none) rfl (wpAny_pure ?_))
  simp only [if_true]
  refine wpAny_bind (wpAny_rule (wpAny_bind (wpAny_field hz rfl (x := .ref TO) rfl (wpAny_bind (wpAny_setField_rec hz (by simp) fun ha za sa => wpAny_bind ?_)))))
  replace za : IsZip ha z TI TO .ellipsis := za
  have xa := sa.extBut
  simp only [List.zipIdx_cons, List.zipIdx_nil, List.forIn_cons, List.forIn_nil]
  refine wpAny_bind (wpAny_bind (wpAny_onRaise ?_))
  show wpAny _ _ (Builtin.SmallTypes.nextOf (.ref i1) >>= _) _ _ _
  refine wpAny_bind (n1 _ _ _ _ hh (p1z _ _ xa h1) fun hb e xb he => ?_)
  obtain ⟨oe, hoe, hce⟩ := he
  have zb : IsZip hb z TI TO .ellipsis := xb _ _ z1.symm za
  have ez : e ≠ z := fun q => by
    subst q
    rw [zb] at hoe
    cases hoe
    simp at hce
  exact wpAny_setField_rec zb (by simp) fun hc _ sc => hE hc e (fun c o c1 c2 q => sc.extBut _ _ c1 (xb _ _ c2 (xa _ _ c1 q))) ⟨oe, sc.extBut _ _ ez hoe, hce⟩

theorem next_item {Q : Option Value → Shared → Prop} (zTO : TO ≠ z) (z1 : i1 ≠ z) (z2 : i2 ≠ z) (o1 : TO ≠ i1) (o2 : TO ≠ i2) (i12 : i1 ≠ i2)
    (n1 : Gives prog w i1 x P1 R1) (n2 : Gives prog w i2 y P2 R2) (p1z : Off P1 z) (p2z : Off P2 z) (p2o : Off P2 TO) (p2i : Off P2 i1)
    (hz : IsZip s.heap z TI TO .none) (hTI : IsPair s.heap TI (.ref i1) (.ref i2)) (hTO : IsPair s.heap TO a b) (h1 : P1 s.heap) (h2 : P2 s.heap)
    (hQ : ∀ h' h1 h2, IsZip h' z TI TO (rawInt s.heap.objs.size) → IsPair h' TO x y → R1 h1 → (∀ o, h1.get? i1 = some o → h'.get? i1 = some o) → R2 h2 → (∀ o, h2.get? i2 = some o → h'.get? i2 = some o) → IsPair h' s.heap.objs.size x y →
      (∀ c o, c ≠ z → c ≠ TO → c ≠ i1 → c ≠ i2 → s.heap.get? c = some o → h'.get? c = some o) → Q (some (.ref s.heap.objs.size)) { s with heap := h' }) :
    wpAny (model prog w) A (pyNext (.ref z)) Q E s := by
  have hT : s.TypeIs (.ref z) "zip" := ⟨_, hz, rfl⟩
  unfold pyNext
  exact wpAny_bind (wpAny_attempt (wpAny_callSpecial?_slot (name := Str.ofString "__next__") hT F.slot_zip_next (wpAny_call_entry F.slot_zip_next hT F.entry_zip_next
    (run_item zTO z1 z2 o1 o2 i12 n1 n2 p1z p2z p2o p2i hz hTI hTO h1 h2 fun h' g1 g2 q1 q2 q3 q4 q5 q6 q7 q8 => wpAny_pure (hQ h' g1 g2 q1 q2 q3 q4 q5 q6 q7 q8)) (F.args_zip_next_1 _))))
theorem next_end {Q : Option Value → Shared → Prop} (hh : A.handled = none) (z1 : i1 ≠ z) (n1 : Ends prog w i1 P1) (p1z : Off P1 z)
    (hz : IsZip s.heap z TI TO .none) (hTI : IsPair s.heap TI (.ref i1) (.ref i2)) (h1 : P1 s.heap)
    (hQ : ∀ h', (∀ c o, c ≠ z → c ≠ i1 → s.heap.get? c = some o → h'.get? c = some o) → Q none { s with heap := h' }) : wpAny (model prog w) A (pyNext (.ref z)) Q E s := by
  have hT : s.TypeIs (.ref z) "zip" := ⟨_, hz, rfl⟩
  unfold pyNext
  refine wpAny_bind (wpAny_attempt (wpAny_callSpecial?_slot (name := Str.ofString "__next__") hT F.slot_zip_next (wpAny_call_entry F.slot_zip_next hT F.entry_zip_next
    (run_end hh z1 n1 p1z hz hTI h1 fun h' e hk he => ?_) (F.args_zip_next_1 _))))
  obtain ⟨o, ho, hc⟩ := he
  exact wpAny_bind (wpAny_isInstance (T := "StopIteration") (b := true) ⟨o, ho, hc⟩ isSubtype_stop (wpAny_pure (hQ _ hk)))
end

/-! ### zip(list, tuple): the call -/
/-- an iterator's first stand -/
abbrev itr (T : String) (l : Addr) : Obj := { cls := .type T, data := .fields #[.ref l, .int 0 0] }
abbrev tup2 (a b : Value) : Obj := { cls := .type "tuple", data := .seq #[a, b] }
abbrev two (h : Heap) (p q : Obj) : Heap := (h.push p).push q
abbrev three (h : Heap) (p q : Obj) : Heap := (two h p q).push (tup2 (.ref h.objs.size) (.ref (h.push p).objs.size))
abbrev four (h : Heap) (p q : Obj) : Heap := (three h p q).push (tup2 .none .none)
abbrev five (h : Heap) (p q : Obj) : Heap := (four h p q).push { cls := .type "zip", data := .fields #[.none, .bool false, .bool false, .ref (two h p q).objs.size, .ref (three h p q).objs.size] }
theorem meets_new (l1 l2 : Addr) (xs ys : Array Value) : Meets (Builtin.«zip.__new__» ⟨[.type "zip", .ref l1, .ref l2], []⟩) (fun _ R s => s.heap.IsList l1 xs ∧ s.heap.IsTuple l2 ys ∧
    R (.ok (.ret (.ref (four s.heap (itr "list_iterator" l1) (itr "tuple_iterator" l2)).objs.size))) { s with heap := five s.heap (itr "list_iterator" l1) (itr "tuple_iterator" l2) }) :=
  .of_wp fun prog w A R s h => by
    obtain ⟨hp, g, d, tk, os⟩ := s
    obtain ⟨q1, q2, h⟩ := h
    have hsub := sub_zip
    have hL1 : Heap.IsList (Shared.heap ⟨hp, g, d, tk, os⟩) l1 xs := q1
    have hL2 : Heap.IsTuple (Shared.heap ⟨hp.push (itr "list_iterator" l1), g, d, tk, os⟩) l2 ys := Heap.IsTuple.push q2 _
    wp_walk using wpAny_pyIter_list hL1, wpAny_pyIter_tuple hL2
    exact ⟨_, rfl, h⟩
section
variable {prog : Program} {w : World} {A : Around} {E : Value → Shared → Prop} {s : Shared}
theorem call_mixed {l1 l2 : Addr} {xs ys : Array Value} {Q : Value → Shared → Prop} (q1 : s.heap.IsList l1 xs) (q2 : s.heap.IsTuple l2 ys)
    (h : ∀ h' n, n = s.heap.objs.size → IsZip h' (n + 4) (n + 2) (n + 3) .none → IsPair h' (n + 2) (.ref n) (.ref (n + 1)) → IsPair h' (n + 3) .none .none → h'.IsListIter n l1 0 → h'.IsTupleIter (n + 1) l2 0 →
      (∀ c o, s.heap.get? c = some o → h'.get? c = some o) → Q (.ref (n + 4)) { s with heap := h' }) : wpAny (model prog w) A (call (.type "zip") [.ref l1, .ref l2]) Q E s := by
  refine callType_new F.called_zip (by decide) (F.typeCall_zip_2 _ _) (F.newCall_zip_2 _ _) (fun obj => F.args_object_init_3 obj _ _) F.entry_zip_new (meets_new l1 l2 xs ys) ⟨q1, q2, ?_⟩
  generalize hp : itr "list_iterator" l1 = p
  generalize hq : itr "tuple_iterator" l2 = q
  have n1 : (s.heap.push p).objs.size = s.heap.objs.size + 1 := Heap.size_push ..
  have n2 : (two s.heap p q).objs.size = s.heap.objs.size + 2 := by rw [Heap.size_push, n1]
  have n3 : (three s.heap p q).objs.size = s.heap.objs.size + 3 := by rw [Heap.size_push, n2]
  have n4 : (four s.heap p q).objs.size = s.heap.objs.size + 4 := by rw [Heap.size_push, n3]
  have kp : ∀ {h : Heap} {o r : Obj} {c : Addr}, h.get? c = some o → (h.push r).get? c = some o := fun e => Heap.get?_push_of_some _ e
  have f1 : p.isFreed = false := by rw [← hp]; rfl
  have f2 : q.isFreed = false := by rw [← hq]; rfl
  have a1 : (five s.heap p q).get? s.heap.objs.size = some p := kp (kp (kp (kp (Heap.get?_push_size _ f1))))
  have a2 : (five s.heap p q).get? (s.heap.push p).objs.size = some q := kp (kp (kp (Heap.get?_push_size _ f2)))
  have a3 : (five s.heap p q).get? (two s.heap p q).objs.size = some _ := kp (kp (Heap.get?_push_size _ rfl))
  have a4 : (five s.heap p q).get? (three s.heap p q).objs.size = some _ := kp (Heap.get?_push_size _ rfl)
  have a5 : (five s.heap p q).get? (four s.heap p q).objs.size = some _ := Heap.get?_push_size _ rfl
  show _ ∧ _
  rw [n2, n3, n4] at a5
  rw [n1, n2] at a3
  rw [n3] at a4
  rw [n1] at a2
  rw [n4]
  subst hp hq
  exact ⟨⟨_, a5, rfl⟩, h _ _ rfl a5 a3 a4 ⟨_, a1, rfl, rfl⟩ ⟨_, a2, rfl, rfl⟩ fun c o e => kp (kp (kp (kp (kp e))))⟩
end
section
variable {prog : Program} {w : World}
theorem gives_list {it l : Addr} {k : Nat} {xs : Array Value} {x : Value} (hx : xs[k]? = some x) : Gives prog w it x (fun h => h.IsListIter it l k ∧ h.IsList l xs) (fun h => h.IsListIter it l (k + 1)) :=
  fun _ _ _ _ p h => wpAny_nextOf_list_item p.1 p.2 hx h
theorem gives_tup {it l : Addr} {k : Nat} {xs : Array Value} {x : Value} (hx : xs[k]? = some x) : Gives prog w it x (fun h => h.IsTupleIter it l k ∧ h.IsTuple l xs) (fun h => h.IsTupleIter it l (k + 1)) :=
  fun _ _ _ _ p h => RZ.nextOf_tuple_item p.1 p.2 hx h
theorem ends_list {it l : Addr} {k : Nat} {xs : Array Value} (hx : xs[k]? = none) : Ends prog w it (fun h => h.IsListIter it l k ∧ h.IsList l xs) :=
  fun _ _ _ _ hh p h => wpAny_nextOf_list_end hh p.1 p.2 hx h
theorem off_list {it l c : Addr} {k : Nat} {xs : Array Value} (h1 : it ≠ c) (h2 : l ≠ c) : Off (fun h => h.IsListIter it l k ∧ h.IsList l xs) c := fun _ _ e p => ⟨p.1.extBut e h1, p.2.extBut e h2⟩
theorem off_tup {it l c : Addr} {k : Nat} {xs : Array Value} (h1 : it ≠ c) (h2 : l ≠ c) : Off (fun h => h.IsTupleIter it l k ∧ h.IsTuple l xs) c := fun _ _ e p => ⟨p.1.extBut e h1, p.2.extBut e h2⟩
end
end ZM
namespace ZM
open PySem PySem.Spec PyProof.Rows L2
/-- the list at a and the tuple at b as they stand at each turn, the items in new pairs; stopped by the list -/
def ItM (K : PySem.W.Frag) (a b : Addr) : It :=
  ⟨fun i H => ∃ (xs ys : List V) (x y : V), SqL K H a xs ∧ SqT K H b ys ∧ xs[i]? = some x ∧ ys[i]? = some y,
    fun i H v H' => ∃ T x y, v = .ref T ∧ H T = none ∧ H' = upd H T (.tup [x, y]) ∧ (∀ xs, SqL K H a xs → xs[i]? = some x) ∧ ∀ ys, SqT K H b ys → ys[i]? = some y,
    fun i H => ∃ xs : List V, SqL K H a xs ∧ xs.length ≤ i⟩
theorem walk_mixed {K : PySem.W.Frag} {a b : Addr} {xs ys : List V} (hl : xs.length = ys.length) : Walk (ItM K a b) xs.length (fun H => SqL K H a xs ∧ SqT K H b ys) (YPair (fun i => xs[i]?) (fun i => ys[i]?)) :=
  ⟨fun i _ hi q => ⟨xs, ys, xs[i], ys[i]'(by omega), q.1, q.2, List.getElem?_eq_getElem hi, List.getElem?_eq_getElem (by omega)⟩, fun _ q => ⟨xs, q.1, Nat.le_refl _⟩, fun _ _ _ _ _ q y => by
    obtain ⟨T, x, y, e, n, e2, f1, f2⟩ := y
    exact ⟨T, x, y, e, n, e2, f1 _ q.1, f2 _ q.2⟩⟩
theorem turn_mixed {P : Program} {w : World} {K : PySem.W.Frag} {elts : List Expr} {kk : Nat} {tpos : Pos} {a b z TI TO i1 i2 : Addr} (D : ZipApart z TI TO i1 i2 a b) :
    Turn P w K (.Tuple elts kk tpos) (ItM K a b) [z, TI, TO, i1, i2] z (fun i h => IsZip h z TI TO .none ∧ IsPair h TI (.ref i1) (.ref i2) ∧ (∃ x y, IsPair h TO x y) ∧ h.IsListIter i1 a i ∧ h.IsTupleIter i2 b i) where
  mem := List.mem_cons_self
  obj := fun i h st c hc => by
    obtain ⟨hz, hTI, ⟨x, y, hTO⟩, ⟨o1, e1, _, d1⟩, ⟨o2, e2, _, d2⟩⟩ := st
    simp only [List.mem_cons, List.not_mem_nil, or_false] at hc
    rcases hc with rfl | rfl | rfl | rfl | rfl
    · exact ⟨_, hz, fun v q => nomatch q⟩
    · exact ⟨_, hTI, fun v q => nomatch q⟩
    · exact ⟨_, hTO, fun v q => nomatch q⟩
    · exact ⟨o1, e1, fun v q => by rw [d1] at q; cases q⟩
    · exact ⟨o2, e2, fun v q => by rw [d2] at q; cases q⟩
  keep := fun i h h' st k => by
    obtain ⟨hz, hTI, ⟨x, y, hTO⟩, h1, h2⟩ := st
    exact ⟨k z (by simp) _ hz, k TI (by simp) _ hTI, ⟨x, y, k TO (by simp) _ hTO⟩, h1.at fun o q => k i1 (by simp) o q, h2.at fun o q => k i2 (by simp) o q⟩
  item := by
    intro X hP hw hK hc i pins s σ H E I hf st hg
    subst hP hw hK
    obtain ⟨hz, hTI, ⟨x0, y0, hTO⟩, h1, h2⟩ := st
    obtain ⟨xs, ys, x, y, hqx, hqy, hx, hy⟩ := hg
    obtain ⟨us, ru, p1, _⟩ := I.list hqx
    obtain ⟨ws, rw', p2, _⟩ := I.tuple hqy
    obtain ⟨u, hu, r1⟩ := ru.get hx
    obtain ⟨u2, hu2, r2⟩ := rw'.get hy
    have zlt : z < s.heap.objs.size := Heap.lt_size hz
    have below : ∀ c ∈ [z, TI, TO, i1, i2], c < s.heap.objs.size := fun c hc => by
      simp only [List.mem_cons, List.not_mem_nil, or_false] at hc
      rcases hc with rfl | rfl | rfl | rfl | rfl
      · exact zlt
      · exact Heap.lt_size hTI
      · exact Heap.lt_size hTO
      · obtain ⟨_, e, _⟩ := h1; exact Heap.lt_size e
      · obtain ⟨_, e, _⟩ := h2; exact Heap.lt_size e
    refine next_item D.TOz D.i1z D.i2z D.TOi1 D.TOi2 D.i12 (gives_list (xs := us.toArray) (x := u) (by simpa using hu)) (gives_tup (xs := ws.toArray) (x := u2) (by simpa using hu2)) (off_list D.i1z D.l1z) (off_tup D.i2z D.l2z) (off_tup D.TOi2.symm D.l2TO) (off_tup D.i12.symm D.l2i1)
      hz hTI hTO ⟨h1, p1.isList⟩ ⟨h2, p2⟩ fun h' g1 g2 z' TO' q1 k1 q2 k2 hT hk => ⟨_, rfl, wpAny_letOwnedTupleGo_zip (s := { s with heap := h' }) z' fun h'' z'' sb => ?_⟩
    have up : ∀ c o, c ≠ z → h'.get? c = some o → h''.get? c = some o := fun c o n e => (sb.2 c n).trans e
    have new : ObjOk X.prog X.w (upd H s.heap.objs.size (.tup [x, y])) h'' s.heap.objs.size (.tup [x, y]) :=
      ⟨by show 2 ≤ sizeLine; decide, [u, u2], .cons r1 (.cons r2 .nil), ⟨_, up _ _ (Nat.ne_of_gt zlt) hT, rfl, _, rfl⟩⟩
    have I1 : Inv X pins σ (upd H s.heap.objs.size (.tup [x, y])) { s with heap := h'' } :=
      I.turnedNew (t' := s.toks) (ch := [z, TI, TO, i1, i2]) (fun c o hb q => by
        simp only [List.mem_cons, List.not_mem_nil, or_false, not_or] at hb
        exact up c o hb.1 (hk c o hb.1 hb.2.2.1 hb.2.2.2.1 hb.2.2.2.2 q)) hf (Nat.le_refl _) new
    refine ⟨.ref s.heap.objs.size, _, I1, rfl, ⟨_, x, y, rfl, I.hok.fresh (Nat.le_refl _), rfl, fun l hl => by rw [I.list_inj hl hqx]; exact hx, fun l hl => by rw [I.tuple_inj hl hqy]; exact hy⟩,
      ⟨z'', up _ _ D.TIz (hk _ _ D.TIz D.TITO D.TIi1 D.TIi2 hTI), ⟨u, u2, up _ _ D.TOz TO'⟩, q1.at fun o e => up _ o D.i1z (k1 o e), q2.at fun o e => up _ o D.i2z (k2 o e)⟩, fun c hcm => ?_⟩
    rw [upd_ne (Nat.ne_of_lt (below c hcm))]
    exact (hf c hcm).1
  done := by
    intro X hP hw hK hc i pins s σ H E I hf st hg
    subst hP hw hK
    obtain ⟨hz, hTI, hTO, h1, h2⟩ := st
    obtain ⟨xs, hqx, hend⟩ := hg
    obtain ⟨us, ru, p1, _⟩ := I.list hqx
    have l1 := ru.length
    exact next_end (I.ok.hd hc) D.i1z (ends_list (xs := us.toArray) (by simp; omega)) (off_list D.i1z D.l1z) hz hTI ⟨h1, p1.isList⟩ fun h' hk => ⟨rfl, I.turnedL (t' := s.toks) (ch := [z, TI, TO, i1, i2]) (fun c o hb q => by
      simp only [List.mem_cons, List.not_mem_nil, or_false, not_or] at hb
      exact hk c o hb.1 hb.2.2.2.1 q) hf⟩
  self := fun A i s Q E st h => wpAny_pyIter_zip st.1 h
def iMix (K : PySem.W.Frag) (ta : TA) : TI := fun σ H R => ta σ H fun vs H1 => ∃ a b xs ys, vs = [.ref a, .ref b] ∧ SqL K H1 a xs ∧ SqT K H1 b ys ∧ R (ItM K a b) H1
theorem pi_mix {X : Cx} {e e2 : Expr} {ta : TA} {p pos tpos : Pos} {elts : List Expr} {kk : Nat} (hg : Gl X "zip") (hm : X.mg "zip" = none) (ha : PA X [e, e2] ta)
    (hs : starEach [e, e2] X.env = (false, eval e X.env) :: starEach [e2] X.env := by rfl) (hpl : (backTo pos (starEach [e2] X.env)).any (·.1) = false := by rfl) :
    PI X (.Tuple elts kk tpos) (.Call (.Name "zip" p) [e, e2] [] pos) (iMix X.K ta) := by
  refine ⟨fun pins s σ H R I h => ?_⟩
  refine Call_ (ld_blt I hg hm PyProof.Rows.boot_zip (PyProof.Rows.callWith_type1 (thn (ha.run pos pins s σ H _ I h) fun us s1 ⟨vs, H1, I1, r1, q1⟩ => ?_) hs hpl))
  obtain ⟨a, b, xs, ys, ex, hqx, hqy, q⟩ := q1
  subst ex
  cases r1 with
  | cons r rr =>
    cases rr with
    | cons r' rr =>
      cases rr
      cases r
      cases r'
      obtain ⟨us, ru, p1, _⟩ := I1.list hqx
      obtain ⟨ws, rw', p2, _⟩ := I1.tuple hqy
      obtain ⟨o2, ho2, _⟩ := id p2
      refine call_mixed p1.isList (show s1.heap.IsTuple b ws.toArray from p2) fun h' n en hz hTI hTO h1 h2 hk => wpAny_pyIter_zip hz ?_
      have I2 : Inv X pins σ H1 { s1 with heap := h' } := I1.kept (t' := s1.toks) hk
      subst en
      refine ⟨s1.heap.objs.size + 4, [s1.heap.objs.size + 4, s1.heap.objs.size + 2, s1.heap.objs.size + 3, s1.heap.objs.size, s1.heap.objs.size + 1], _, _, H1, rfl, I2, turn_mixed (PySem.W.ktu_apart s1.heap.objs.size a b p1.lt (Heap.lt_size ho2)), ⟨hz, hTI, ⟨_, _, hTO⟩, h1, h2⟩, fun c hc => ?_, q⟩
      have le : s1.heap.objs.size ≤ c := by
        simp only [List.mem_cons, List.not_mem_nil, or_false] at hc
        rcases hc with h | h | h | h | h <;> rw [h]
        · exact Nat.le_add_right _ _
        · exact Nat.le_add_right _ _
        · exact Nat.le_add_right _ _
        · exact Nat.le_refl _
        · exact Nat.le_add_right _ _
      exact I1.fpOk le (I1.hok.fresh le)
end ZM

namespace My
open PySem PySem.Spec PyProof.Rows L2 GX GxR
abbrev s_scKLoad : Stmt := topS 39
abbrev n_scKLoad : List Str := ["_law_m", "_law_time_here", "_law_load_here", "_law_begin", "_law_end", "_law_amount_here", "_law_one", "_law_other"]
theorem scKLoad : FnScope n_scKLoad ["_law_m", "_law_time_here"] (defScope s_scKLoad) := ⟨rfl, rfl, rfl, by decide +kernel, rfl, by decide +kernel, by decide +kernel⟩
def bwOf (r : Ent) : Bw := ⟨r.key, r.bg, r.nd, r.am⟩
def spMLoad : Sp := fun vs H Q _ => ∃ (m pr rd : Addr) (ns : List Int) (top wide : Int) (rows : List (Str × V)) (es : List Ent) (t : Int), vs = [.ref m, .int t] ∧ MAt H m pr rd ns top wide rows ∧ Ents H rows es ∧ es.length ≤ 190 ∧ (∀ r ∈ es, r.am.length = ns.length) ∧
  ∀ p H', Same H H' → H p = none → H' p = some (.tup ((netB ns.length (es.map bwOf) t).map V.int)) → Q (.ref p) H'
section
variable {P : Program} {w : World} {K : PySem.W.Frag} {mg : Str → Option Value} {base : Heap}
set_option maxHeartbeats 1000000 in
theorem ok_kload {f : Addr} {fd : FuncData} {k : Nat} (F : Fun K "_law_load" "_law_load" s_scKLoad f fd) (X : Txt mg) : FnOk P w K mg base CX0 (k + 1) f fd ["_law_m", "_law_time_here"] spMLoad := by
  refine F.ok scKLoad (fun vs H Q E h => ?_) (fun cdv A outer s H vs Q E hr h => ?_)
  · obtain ⟨m, pr, rd, ns, top, wide, rows, es, t, rfl, _⟩ := h
    rfl
  · obtain ⟨m, pr, rd, ns, top, wide, rows, es, t, rfl, M, hE, hl, aml, q⟩ := h
    have n1 := M.len1
    have n8 := M.len8
    refine ⟨_, (pss_cons (ps_set (i := 2) scKLoad.nd rfl (.inl rfl) (pe_op op_rep (pe_lst (pa_cons pe_int pa_nil)) (pe_callB call_len_seq (by rfl) X.len PySem.boot_len (pa_cons (pe_dget (hu_of hr) (pv 0) pe_str (fun _ _ => rfl)) pa_nil))))
      (C8.pss_cut (ps_lock (ps_for PassesOwn.never rfl (pi_values (pe_dget (hu_of hr) (pv 0) pe_str (fun _ _ => rfl))) (pg_tup rfl (pgs_cons (pg_name (i := 3) scKLoad.nd rfl (.inl rfl)) (pgs_cons (pg_name (i := 4) scKLoad.nd rfl (.inl rfl)) (pgs_cons (pg_name (i := 5) scKLoad.nd rfl (.inl rfl)) pgs_nil))))
        (pss_one (ps_if (pt_chain op_le op_lt (pv 3) (pv 1) (pv 4))
          (pss_one (ps_setLc (i := 2) (own := [("_law_one", 6), ("_law_other", 7)]) (g := (gTup K 2 (gCons (gName 6) (gCons (gName 7) gNil)))) (tt := tYes) rfl scKLoad.nd rfl rfl (sw_true rfl rfl rfl (by decide +kernel)) (ZM.pi_mix (by rfl) X.zip (pa_cons (pv 2) (pa_cons (pv 5) pa_nil))) (blkOk_by (own := [("_law_one", 6), ("_law_other", 7)]) (N := n_scKLoad) (sc := defScope s_scKLoad) (by decide +kernel)) (fun _ _ _ _ _ => (pg_tup rfl (pgs_cons (pg_name (i := 6) scKLoad.nd rfl (.inl rfl)) (pgs_cons (pg_name (i := 7) scKLoad.nd rfl (.inl rfl)) pgs_nil)))) (fun _ _ _ _ _ => pts_nil) (fun _ _ _ _ _ => (pe_op op_add (pv 6) (pv 7)))))
          pss_nil))))
      (pss_one (ps_ret (pe_callTy call_tuple_of (by rfl) X.tup bt_tuple (pa_cons (pv 2) pa_nil)))))), ?_⟩
    refine ⟨by show 1 ≤ sizeLine; decide, fun l0 n0 => ?_⟩
    have s0 : Same H (upd H l0 (.lst [.int 0])) := same_upd n0
    have e0 : upd H l0 (.lst [.int 0]) l0 = some (.lst [.int 0]) := upd_same
    generalize upd H l0 (.lst [.int 0]) = H0 at s0 e0 ⊢
    refine ⟨_, rfl, m, .ref pr, rfl, DGet.k (k := .inr "room") (s0 _ _ M.dict), pr, _, rfl, .inr (SqT.of (s0 _ _ M.room)), ?_⟩
    refine ⟨l0, _, [.int 0], rfl, rfl, e0, by rw [List.length_map]; omega, by rw [List.length_map]; omega, ?_, fun p0 np0 => ?_⟩
    · rw [List.length_map, Int.toNat_natCast]
      show 1 * ns.length ≤ sizeLine
      exact Nat.le_of_lt (small63 (by omega))
    rw [List.length_map, Int.toNat_natCast, rep_flat]
    have s1 : Same H0 (upd H0 p0 (.lst (List.replicate ns.length (.int 0)))) := same_upd np0
    have e1 : upd H0 p0 (.lst (List.replicate ns.length (.int 0))) p0 = some (.lst ((netB ns.length [] t).map V.int)) := by
      rw [upd_same, net_nil, List.map_replicate]
    generalize upd H0 p0 (.lst (List.replicate ns.length (.int 0))) = H1 at s1 e1 ⊢
    have s01 := s0.trans s1
    have np : H p0 = none := s0.free np0
    have M1 := M.same s01
    have hE1 : Ents H1 rows es := Ents.imp (fun v r h => h.same s01) hE
    refine ⟨fun σ H' => ∃ (l : Addr), σ[2]? = some (some (V.ref l)) ∧ Same H H' ∧ H' l = some (.lst ((netB ns.length (es.map bwOf) t).map V.int)), ?_, fun σ H2 hm => ?_⟩
    · refine ⟨rd, _, M1.rows, trivial, fun od => ?_⟩
      have kd : KTu H1 (upd H1 rd (.frz od (.dK (rows.map fun r => (.inr r.1, r.2))))) := kt_put M1.rows (fun xs z => by cases z)
      have em : upd H1 rd (.frz od (.dK (rows.map fun r => (.inr r.1, r.2)))) m = some (.dK [(.inr "room", .ref pr), (.inr "top", .int top), (.inr "wide", .int wide), (.inr "rows", .ref rd)]) := by
        rw [upd_ne (Ne.symm M.ne)]
        exact M1.dict
      have pr0 : p0 ≠ rd := fun z => by
        rw [z, M1.rows] at e1
        cases e1
      have e2 : upd H1 rd (.frz od (.dK (rows.map fun r => (.inr r.1, r.2)))) p0 = some (.lst ((netB ns.length [] t).map V.int)) := by
        rw [upd_ne pr0]
        exact e1
      have k2 : Kp [rd] H1 (upd H1 rd (.frz od (.dK (rows.map fun r => (.inr r.1, r.2))))) := kp_lock
      have ed2 : upd H1 rd (.frz od (.dK (rows.map fun r => (.inr r.1, r.2)))) rd = some (.frz od (.dK (rows.map fun r => (.inr r.1, r.2)))) := upd_same
      generalize upd H1 rd (.frz od (.dK (rows.map fun r => (.inr r.1, r.2)))) = H2 at kd em e2 k2 ed2 ⊢
      refine ⟨_, rfl, m, .ref rd, rfl, DGet.k (k := .inr "rows") em, rd, od, _, rfl, ed2, ?_⟩
      refine for_it walk_values (fun i σ H' => ∃ (l : Addr) (y3 y4 y5 : Option V), σ = [some (.ref m), some (.int t), some (.ref l), y3, y4, y5, none, none] ∧ Same H2 H' ∧ H' l = some (.lst ((netB ns.length ((es.map bwOf).take i) t).map V.int)))
        ⟨p0, none, none, none, rfl, Same.refl _, e2⟩ (fun i σ H' _ p => ?_) (fun i x σ H3o H3 hi p y => ?_) (fun σ H3 p => ?_)
      · obtain ⟨_, _, _, _, _, s3, _⟩ := p
        exact s3 _ _ ed2
      · obtain ⟨l, y3, y4, y5, rfl, s3, el⟩ := p
        obtain ⟨rfl, key, hk⟩ := y
        rw [List.getElem?_map] at hk
        cases hr' : rows[i]? with
        | none => rw [hr'] at hk; cases hk
        | some kv =>
          obtain ⟨kk, v⟩ := kv
          rw [hr'] at hk
          cases hk
          obtain ⟨r, hr2, _, tt, la, rfl, ht, hla⟩ := hE1.get i kk _ hr'
          have t1 := s3 _ _ (kd _ _ ht)
          have t2 := s3 _ _ (kd _ _ hla)
          have lam := aml r (List.mem_of_getElem? hr2)
          have tk : (es.map bwOf).take (i + 1) = (es.map bwOf).take i ++ [bwOf r] := by
            rw [List.take_add_one, List.getElem?_map, hr2]
            rfl
          refine ⟨tt, _, rfl, SqT.of t1, rfl, _, _, rfl, _, _, rfl, _, _, rfl, rfl, ?_⟩
          refine ⟨_, rfl, _, rfl, _, _, rfl, rfl, _, rfl, ite2 (fun e1 => ?_) (fun e1 => ?_)⟩
          · refine ⟨_, rfl, _, _, rfl, rfl, _, rfl, ite2 (fun e2 => ?_) (fun e2 => ?_)⟩
            · have lv : liveAt t (bwOf r) = true := decide_eq_true ⟨of_decide_eq_true e1, of_decide_eq_true e2⟩
              have na := net_add (w := ns.length) (rs := (es.map bwOf).take i) lv lam
              have ln := netB_len ns.length ((es.map bwOf).take i) t
              rw [← tk] at na
              generalize netB ns.length ((es.map bwOf).take i) t = net at el na ln
              refine ⟨_, rfl, _, rfl, l, la, _, _, rfl, SqL.of el, SqT.of t2, fun D nD => ?_⟩
              refine lc_it (ZM.walk_mixed (by rw [List.length_map, List.length_map, ln, lam])) (fun j H' => Same H3 H' ∧ H' D = some (.lst (((List.zipWith (· + ·) net r.am).take j).map V.int)))
                ⟨same_upd nD, upd_same⟩ (fun j H' _ p => ⟨SqL.of (p.1 _ _ el), SqT.of (p.1 _ _ t2)⟩) (fun j v H4 H5 hj p y => ?_) (fun H4 p => ?_)
              · obtain ⟨T1, x1, x2, rfl, nT, rfl, g1, g2⟩ := y
                obtain ⟨p1, p2⟩ := p
                obtain ⟨x, hx, rfl⟩ := get_int g1
                obtain ⟨y, hy, rfl⟩ := get_int g2
                have s5 : Same H4 (upd H4 T1 (.tup [.int x, .int y])) := same_upd nT
                have hi2 : j < net.length := (List.getElem?_eq_some_iff.mp hx).1
                refine ⟨T1, [.int x, .int y], rfl, SqT.of upd_same, rfl, .int x, [.int y], rfl, .int y, [], rfl, rfl, rfl, ?_⟩
                refine ⟨_, rfl, _, rfl, x, y, rfl, rfl, _, s5 _ _ p2, ?_, same_putA (p1.trans s5) nD, ?_⟩
                · rw [List.length_map, List.length_take]
                  exact small1000 (by omega)
                · rw [upd_same, zw_take hx hy, List.map_append]
                  rfl
              · obtain ⟨p1, p2⟩ := p
                rw [List.take_of_length_le (by rw [List.length_zipWith, List.length_map]; exact Nat.min_le_left _ _)] at p2
                exact ⟨D, _, _, _, rfl, s3.trans p1, by rw [← na]; exact p2⟩
            · refine ⟨l, _, _, _, rfl, s3, ?_⟩
              rw [tk, net_skip (decide_eq_false fun z => e2 (decide_eq_true z.2))]
              exact el
          · refine ⟨false, rfl, iteF ⟨l, _, _, _, rfl, s3, ?_⟩⟩
            rw [tk, net_skip (decide_eq_false fun z => e1 (decide_eq_true z.1))]
            exact el
      · obtain ⟨l, y3, y4, y5, rfl, s3, el⟩ := p
        have lr : l ≠ rd := fun z => by
          rw [z, s3 _ _ ed2] at el
          cases el
        refine ⟨s3 _ _ ed2, l, rfl, s01.trans (unlock_same M1.rows (k2.trans (Same.kp _ s3))), ?_⟩
        rw [upd_ne lr, el, List.length_map, hE.len, List.take_of_length_le (by rw [List.length_map]; exact Nat.le_refl _)]
    · obtain ⟨l, e, s2, el⟩ := hm
      refine ⟨_, e, l, _, rfl, .inl ⟨SqL.of el, fun p np => ?_⟩⟩
      exact q p _ (s2.trans (same_upd np)) (s2.free np) upd_same
end
end My

set_option maxHeartbeats 2000000
/-! zip of three: as ZM has it for two -/
namespace ZM
open PySem
abbrev IsTri (h : Heap) (T : Addr) (a b c : Value) : Prop := h.get? T = some { cls := .type "tuple", data := .seq #[a, b, c] }
section
variable {prog : Program} {w : World} {A : Around} {E : Value → Shared → Prop} {s : Shared} {z TI TO i1 i2 i3 : Addr} {x y v a b c : Value} {P1 R1 P2 R2 P3 R3 : Heap → Prop}
theorem updateSeq_tri {T : Addr} {k : Nat} {Q : Unit → Shared → Prop} (hT : IsTri s.heap T a b c)
    (h : ∀ h', h'.get? T = some { cls := .type "tuple", data := .seq ((#[a, b, c] : Array Value).setIfInBounds k x) } → Heap.SameBut T s.heap h' → Q () { s with heap := h' }) :
    wpAny (model prog w) A (updateSeq T (·.setIfInBounds k x)) Q E s := by
  refine wpAny_updateSeq hT rfl (h _ ?_ (Heap.SameBut.update ..))
  rw [Heap.get?_update_self _ hT rfl]
  simp [Obj.mapSeq]
structure Ap3 (z TI TO i1 i2 i3 : Addr) : Prop where
  TIz : TI ≠ z
  TOz : TO ≠ z
  i1z : i1 ≠ z
  i2z : i2 ≠ z
  i3z : i3 ≠ z
  TITO : TI ≠ TO
  TIi1 : TI ≠ i1
  TIi2 : TI ≠ i2
  TIi3 : TI ≠ i3
  TOi1 : TO ≠ i1
  TOi2 : TO ≠ i2
  TOi3 : TO ≠ i3
  i12 : i1 ≠ i2
  i13 : i1 ≠ i3
  i23 : i2 ≠ i3
theorem run_item3 {Q : Value → Shared → Prop} (D : Ap3 z TI TO i1 i2 i3)
    (n1 : Gives prog w i1 x P1 R1) (n2 : Gives prog w i2 y P2 R2) (n3 : Gives prog w i3 v P3 R3) (p1z : Off P1 z) (p2z : Off P2 z) (p2o : Off P2 TO) (p2i : Off P2 i1) (p3z : Off P3 z) (p3o : Off P3 TO) (p3i : Off P3 i1) (p3j : Off P3 i2)
    (hz : IsZip s.heap z TI TO .none) (hTI : IsTri s.heap TI (.ref i1) (.ref i2) (.ref i3)) (hTO : IsTri s.heap TO a b c) (h1 : P1 s.heap) (h2 : P2 s.heap) (h3 : P3 s.heap)
    (hQ : ∀ h' h1 h2 h3, IsZip h' z TI TO (rawInt s.heap.objs.size) → IsTri h' TO x y v → R1 h1 → (∀ o, h1.get? i1 = some o → h'.get? i1 = some o) → R2 h2 → (∀ o, h2.get? i2 = some o → h'.get? i2 = some o) → R3 h3 → (∀ o, h3.get? i3 = some o → h'.get? i3 = some o) → IsTri h' s.heap.objs.size x y v →
      (∀ c o, c ≠ z → c ≠ TO → c ≠ i1 → c ≠ i2 → c ≠ i3 → s.heap.get? c = some o → h'.get? c = some o) → Q (.ref s.heap.objs.size) { s with heap := h' }) :
    wpAny (model prog w) A (Builtin.«zip.__next__» ⟨[.ref z], []⟩) (fun fin s' => ∃ v, fin = .done (.ret v) ∧ Q v s') E s := by
  show wpAny _ _ (field (.ref z) 2 >>= _) _ _ _
  refine wpAny_bind (wpAny_field hz rfl (x := .bool false) rfl ?_)
  show wpAny _ _ (field (.ref z) 3 >>= _) _ _ _
  refine wpAny_bind (wpAny_field hz rfl (x := .ref TI) rfl (wpAny_bind (wpAny_seqItems hTI rfl ?_)))
  show wpAny _ _ (Builtin.SmallTypes.ownedTupleIsFree (.ref z) >>= _) _ _ _
  refine wpAny_bind ?_
  unfold Builtin.SmallTypes.ownedTupleIsFree
  refine wpAny_bind (wpAny_field hz rfl (x := .none) rfl (wpAny_pure ?_))
  simp only [if_true]
  refine wpAny_bind (wpAny_rule (wpAny_bind (wpAny_field hz rfl (x := .ref TO) rfl (wpAny_bind (wpAny_setField_rec hz (by simp) fun ha za sa => wpAny_bind ?_)))))
  replace za : IsZip ha z TI TO .ellipsis := za
  have xa := sa.extBut
  simp only [List.zipIdx_cons, List.zipIdx_nil, List.forIn_cons, List.forIn_nil]
  refine wpAny_bind (wpAny_bind (wpAny_onRaise ?_))
  show wpAny _ _ (Builtin.SmallTypes.nextOf (.ref i1) >>= _) _ _ _
  refine wpAny_bind (n1 _ _ _ _ (p1z _ _ xa h1) fun hb rb sb => wpAny_pure ?_)
  have xb := sb.extBut
  have tb : IsTri hb TO a b c := xb _ _ D.TOi1 (xa _ _ D.TOz hTO)
  refine wpAny_bind (wpAny_seqItems tb rfl (wpAny_bind (updateSeq_tri tb fun hc tc sc => wpAny_bind (wpAny_letGo (wpAny_pure ?_)))))
  replace tc : IsTri hc TO x b c := tc
  have xc := sc.extBut
  refine wpAny_bind (wpAny_bind (wpAny_onRaise ?_))
  show wpAny _ _ (Builtin.SmallTypes.nextOf (.ref i2) >>= _) _ _ _
  refine wpAny_bind (n2 _ _ _ _ (p2o _ _ xc (p2i _ _ xb (p2z _ _ xa h2))) fun hd rd sd => wpAny_pure ?_)
  have xd := sd.extBut
  have td : IsTri hd TO x b c := xd _ _ D.TOi2 tc
  refine wpAny_bind (wpAny_seqItems td rfl (wpAny_bind (updateSeq_tri td fun he te se => wpAny_bind (wpAny_letGo (wpAny_pure ?_)))))
  replace te : IsTri he TO x y c := te
  have xe := se.extBut
  refine wpAny_bind (wpAny_bind (wpAny_onRaise ?_))
  show wpAny _ _ (Builtin.SmallTypes.nextOf (.ref i3) >>= _) _ _ _
  refine wpAny_bind (n3 _ _ _ _ (p3o _ _ xe (p3j _ _ xd (p3o _ _ xc (p3i _ _ xb (p3z _ _ xa h3))))) fun hf rf sf => wpAny_pure ?_)
  have xf := sf.extBut
  have tf : IsTri hf TO x y c := xf _ _ D.TOi3 te
  refine wpAny_bind (wpAny_seqItems tf rfl (wpAny_bind (updateSeq_tri tf fun hg tg sg => wpAny_bind (wpAny_letGo (wpAny_pure (wpAny_pure ?_))))))
  replace tg : IsTri hg TO x y v := tg
  have xg := sg.extBut
  have size : hg.objs.size = s.heap.objs.size := by rw [sg.1, sf.1, se.1, sd.1, sc.1, sb.1, sa.1]
  have ze : IsZip hg z TI TO .ellipsis := xg _ _ D.TOz.symm (xf _ _ D.i3z.symm (xe _ _ D.TOz.symm (xd _ _ D.i2z.symm (xc _ _ D.TOz.symm (xb _ _ D.i1z.symm za)))))
  have zlt : z < hg.objs.size := Heap.lt_size ze
  refine wpAny_bind (wpAny_seqItems tg rfl (wpAny_bind (wpAny_newTuple ?_)))
  show wpAny _ _ (Builtin.SmallTypes.ownedTupleHandOut (.ref z) (.ref hg.objs.size) >>= _) _ _ _
  refine wpAny_bind ?_
  unfold Builtin.SmallTypes.ownedTupleHandOut
  have zf : IsZip (hg.push { cls := .type "tuple", data := .seq #[x, y, v] }) z TI TO .ellipsis := Heap.get?_push_of_some _ ze
  refine wpAny_bind (wpAny_setField_rec zf (by simp) fun hk zk sk => ?_)
  replace zk : IsZip hk z TI TO (rawInt hg.objs.size) := zk
  refine wpAny_setField_rec zk (by simp) fun hl zl sl => ?_
  replace zl : IsZip hl z TI TO (rawInt hg.objs.size) := zl
  have up : ∀ c o, c ≠ z → (hg.push { cls := .type "tuple", data := .seq #[x, y, v] }).get? c = some o → hl.get? c = some o := fun c o n e => sl.extBut _ _ n (sk.extBut _ _ n e)
  have tri : IsTri hl hg.objs.size x y v := up _ _ (Nat.ne_of_gt zlt) (Heap.get?_push_size _ rfl)
  have up2 : ∀ c o, c ≠ z → hg.get? c = some o → hl.get? c = some o := fun c o n e => up c o n (Heap.get?_push_of_some _ e)
  refine wpAny_pure ⟨_, rfl, ?_⟩
  show Q (.ref hg.objs.size) _
  rw [size] at zl tri ⊢
  exact hQ hl hb hd hf zl (up2 _ _ D.TOz tg) rb (fun o e => up2 _ o D.i1z (xg _ _ D.TOi1.symm (xf _ _ D.i13 (xe _ _ D.TOi1.symm (xd _ _ D.i12 (xc _ _ D.TOi1.symm e)))))) rd (fun o e => up2 _ o D.i2z (xg _ _ D.TOi2.symm (xf _ _ D.i23 (xe _ _ D.TOi2.symm e)))) rf (fun o e => up2 _ o D.i3z (xg _ _ D.TOi3.symm e)) tri
    fun c o c1 c2 c3 c4 c5 e => up2 c o c1 (xg _ _ c2 (xf _ _ c5 (xe _ _ c2 (xd _ _ c4 (xc _ _ c2 (xb _ _ c3 (xa _ _ c1 e)))))))
theorem run_end3 {Q : Fin → Shared → Prop} (hh : A.handled = none) (z1 : i1 ≠ z) (n1 : Ends prog w i1 P1) (p1z : Off P1 z)
    (hz : IsZip s.heap z TI TO .none) (hTI : IsTri s.heap TI (.ref i1) (.ref i2) (.ref i3)) (h1 : P1 s.heap)
    (hE : ∀ h' e, (∀ c o, c ≠ z → c ≠ i1 → s.heap.get? c = some o → h'.get? c = some o) → (∃ o, h'.get? e = some o ∧ o.cls = .type "StopIteration") → E (.ref e) { s with heap := h' }) :
    wpAny (model prog w) A (Builtin.«zip.__next__» ⟨[.ref z], []⟩) Q E s := by
  show wpAny _ _ (field (.ref z) 2 >>= _) _ _ _
  refine wpAny_bind (wpAny_field hz rfl (x := .bool false) rfl ?_)
  show wpAny _ _ (field (.ref z) 3 >>= _) _ _ _
  refine wpAny_bind (wpAny_field hz rfl (x := .ref TI) rfl (wpAny_bind (wpAny_seqItems hTI rfl ?_)))
  show wpAny _ _ (Builtin.SmallTypes.ownedTupleIsFree (.ref z) >>= _) _ _ _
  refine wpAny_bind ?_
  unfold Builtin.SmallTypes.ownedTupleIsFree
  refine wpAny_bind (wpAny_field hz rfl (x := .none) rfl (wpAny_pure ?_))
  simp only [if_true]
  refine wpAny_bind (wpAny_rule (wpAny_bind (wpAny_field hz rfl (x := .ref TO) rfl (wpAny_bind (wpAny_setField_rec hz (by simp) fun ha za sa => wpAny_bind ?_)))))
  replace za : IsZip ha z TI TO .ellipsis := za
  have xa := sa.extBut
  simp only [List.zipIdx_cons, List.zipIdx_nil, List.forIn_cons, List.forIn_nil]
  refine wpAny_bind (wpAny_bind (wpAny_onRaise ?_))
  show wpAny _ _ (Builtin.SmallTypes.nextOf (.ref i1) >>= _) _ _ _
  refine wpAny_bind (n1 _ _ _ _ hh (p1z _ _ xa h1) fun hb e xb he => ?_)
  obtain ⟨oe, hoe, hce⟩ := he
  have zb : IsZip hb z TI TO .ellipsis := xb _ _ z1.symm za
  have ez : e ≠ z := fun q => by
    subst q
    rw [zb] at hoe
    cases hoe
    simp at hce
  exact wpAny_setField_rec zb (by simp) fun hc _ sc => hE hc e (fun c o c1 c2 q => sc.extBut _ _ c1 (xb _ _ c2 (xa _ _ c1 q))) ⟨oe, sc.extBut _ _ ez hoe, hce⟩
theorem next_item3 {Q : Option Value → Shared → Prop} (D : Ap3 z TI TO i1 i2 i3)
    (n1 : Gives prog w i1 x P1 R1) (n2 : Gives prog w i2 y P2 R2) (n3 : Gives prog w i3 v P3 R3) (p1z : Off P1 z) (p2z : Off P2 z) (p2o : Off P2 TO) (p2i : Off P2 i1) (p3z : Off P3 z) (p3o : Off P3 TO) (p3i : Off P3 i1) (p3j : Off P3 i2)
    (hz : IsZip s.heap z TI TO .none) (hTI : IsTri s.heap TI (.ref i1) (.ref i2) (.ref i3)) (hTO : IsTri s.heap TO a b c) (h1 : P1 s.heap) (h2 : P2 s.heap) (h3 : P3 s.heap)
    (hQ : ∀ h' h1 h2 h3, IsZip h' z TI TO (rawInt s.heap.objs.size) → IsTri h' TO x y v → R1 h1 → (∀ o, h1.get? i1 = some o → h'.get? i1 = some o) → R2 h2 → (∀ o, h2.get? i2 = some o → h'.get? i2 = some o) → R3 h3 → (∀ o, h3.get? i3 = some o → h'.get? i3 = some o) → IsTri h' s.heap.objs.size x y v →
      (∀ c o, c ≠ z → c ≠ TO → c ≠ i1 → c ≠ i2 → c ≠ i3 → s.heap.get? c = some o → h'.get? c = some o) → Q (some (.ref s.heap.objs.size)) { s with heap := h' }) :
    wpAny (model prog w) A (pyNext (.ref z)) Q E s := by
  have hT : s.TypeIs (.ref z) "zip" := ⟨_, hz, rfl⟩
  unfold pyNext
  exact wpAny_bind (wpAny_attempt (wpAny_callSpecial?_slot (name := Str.ofString "__next__") hT F.slot_zip_next (wpAny_call_entry F.slot_zip_next hT F.entry_zip_next
    (run_item3 D n1 n2 n3 p1z p2z p2o p2i p3z p3o p3i p3j hz hTI hTO h1 h2 h3 fun h' g1 g2 g3 q1 q2 q3 q4 q5 q6 q7 q8 q9 q10 => wpAny_pure (hQ h' g1 g2 g3 q1 q2 q3 q4 q5 q6 q7 q8 q9 q10)) (F.args_zip_next_1 _))))
theorem next_end3 {Q : Option Value → Shared → Prop} (hh : A.handled = none) (z1 : i1 ≠ z) (n1 : Ends prog w i1 P1) (p1z : Off P1 z)
    (hz : IsZip s.heap z TI TO .none) (hTI : IsTri s.heap TI (.ref i1) (.ref i2) (.ref i3)) (h1 : P1 s.heap)
    (hQ : ∀ h', (∀ c o, c ≠ z → c ≠ i1 → s.heap.get? c = some o → h'.get? c = some o) → Q none { s with heap := h' }) : wpAny (model prog w) A (pyNext (.ref z)) Q E s := by
  have hT : s.TypeIs (.ref z) "zip" := ⟨_, hz, rfl⟩
  unfold pyNext
  refine wpAny_bind (wpAny_attempt (wpAny_callSpecial?_slot (name := Str.ofString "__next__") hT F.slot_zip_next (wpAny_call_entry F.slot_zip_next hT F.entry_zip_next
    (run_end3 hh z1 n1 p1z hz hTI h1 fun h' e hk he => ?_) (F.args_zip_next_1 _))))
  obtain ⟨o, ho, hc⟩ := he
  exact wpAny_bind (wpAny_isInstance (T := "StopIteration") (b := true) ⟨o, ho, hc⟩ isSubtype_stop (wpAny_pure (hQ _ hk)))
end
theorem typeCall_zip_3 (a b c : Value) : checkTypeCall "zip" ⟨[a, b, c], []⟩ = pure () := by kernel_rfl
theorem newCall_zip_3 (a b c : Value) : checkBuiltinCall "zip.__new__" ⟨[.type "zip", a, b, c], []⟩ = pure () := by kernel_rfl
theorem args_object_init_4 (a b c d : Value) : argsOk "object.__init__" ⟨[a, b, c, d], []⟩ := by
  unfold argsOk; rw [signature?_of (id := "object.__init__") (n := ['_', '_', 't', 'i', 'n', 'i', '_', '_']) (o := ['t', 'c', 'e', 'j', 'b', 'o']) (by kernel_rfl) F.owner_object]; kernel_rfl
abbrev tup3 (a b c : Value) : Obj := { cls := .type "tuple", data := .seq #[a, b, c] }
abbrev thr (h : Heap) (p q r : Obj) : Heap := ((h.push p).push q).push r
abbrev fou (h : Heap) (p q r : Obj) : Heap := (thr h p q r).push (tup3 (.ref h.objs.size) (.ref (h.push p).objs.size) (.ref ((h.push p).push q).objs.size))
abbrev fiv (h : Heap) (p q r : Obj) : Heap := (fou h p q r).push (tup3 .none .none .none)
abbrev six (h : Heap) (p q r : Obj) : Heap := (fiv h p q r).push { cls := .type "zip", data := .fields #[.none, .bool false, .bool false, .ref (thr h p q r).objs.size, .ref (fou h p q r).objs.size] }
theorem meets_newL (l1 l2 l3 : Addr) (xs ys vs : Array Value) : Meets (Builtin.«zip.__new__» ⟨[.type "zip", .ref l1, .ref l2, .ref l3], []⟩) (fun _ R s => s.heap.IsList l1 xs ∧ s.heap.IsTuple l2 ys ∧ s.heap.IsTuple l3 vs ∧
    R (.ok (.ret (.ref (fiv s.heap (itr "list_iterator" l1) (itr "tuple_iterator" l2) (itr "tuple_iterator" l3)).objs.size))) { s with heap := six s.heap (itr "list_iterator" l1) (itr "tuple_iterator" l2) (itr "tuple_iterator" l3) }) :=
  .of_wp fun prog w A R s h => by
    obtain ⟨hp, g, d, tk, os⟩ := s
    obtain ⟨q1, q2, q3, h⟩ := h
    have hsub := sub_zip
    have hL1 : Heap.IsList (Shared.heap ⟨hp, g, d, tk, os⟩) l1 xs := q1
    have hL2 : Heap.IsTuple (Shared.heap ⟨hp.push (itr "list_iterator" l1), g, d, tk, os⟩) l2 ys := Heap.IsTuple.push q2 _
    have hL3 : Heap.IsTuple (Shared.heap ⟨(hp.push (itr "list_iterator" l1)).push (itr "tuple_iterator" l2), g, d, tk, os⟩) l3 vs := Heap.IsTuple.push (Heap.IsTuple.push q3 _) _
    wp_walk using wpAny_pyIter_list hL1, wpAny_pyIter_tuple hL2, wpAny_pyIter_tuple hL3
    exact ⟨_, rfl, h⟩
theorem meets_newT (l1 l2 l3 : Addr) (xs ys vs : Array Value) : Meets (Builtin.«zip.__new__» ⟨[.type "zip", .ref l1, .ref l2, .ref l3], []⟩) (fun _ R s => s.heap.IsTuple l1 xs ∧ s.heap.IsTuple l2 ys ∧ s.heap.IsTuple l3 vs ∧
    R (.ok (.ret (.ref (fiv s.heap (itr "tuple_iterator" l1) (itr "tuple_iterator" l2) (itr "tuple_iterator" l3)).objs.size))) { s with heap := six s.heap (itr "tuple_iterator" l1) (itr "tuple_iterator" l2) (itr "tuple_iterator" l3) }) :=
  .of_wp fun prog w A R s h => by
    obtain ⟨hp, g, d, tk, os⟩ := s
    obtain ⟨q1, q2, q3, h⟩ := h
    have hsub := sub_zip
    have hL1 : Heap.IsTuple (Shared.heap ⟨hp, g, d, tk, os⟩) l1 xs := q1
    have hL2 : Heap.IsTuple (Shared.heap ⟨hp.push (itr "tuple_iterator" l1), g, d, tk, os⟩) l2 ys := Heap.IsTuple.push q2 _
    have hL3 : Heap.IsTuple (Shared.heap ⟨(hp.push (itr "tuple_iterator" l1)).push (itr "tuple_iterator" l2), g, d, tk, os⟩) l3 vs := Heap.IsTuple.push (Heap.IsTuple.push q3 _) _
    wp_walk using wpAny_pyIter_tuple hL1, wpAny_pyIter_tuple hL2, wpAny_pyIter_tuple hL3
    exact ⟨_, rfl, h⟩
end ZM

set_option maxHeartbeats 2000000
namespace ZM
open PySem
section
variable {prog : Program} {w : World} {A : Around} {E : Value → Shared → Prop} {s : Shared}
theorem call_zip3L {l1 l2 l3 : Addr} {xs ys vs : Array Value} {Q : Value → Shared → Prop} (q1 : s.heap.IsList l1 xs) (q2 : s.heap.IsTuple l2 ys) (q3 : s.heap.IsTuple l3 vs)
    (h : ∀ h' n, n = s.heap.objs.size → IsZip h' (n + 5) (n + 3) (n + 4) .none → IsTri h' (n + 3) (.ref n) (.ref (n + 1)) (.ref (n + 2)) → IsTri h' (n + 4) .none .none .none → h'.IsListIter n l1 0 → h'.IsTupleIter (n + 1) l2 0 → h'.IsTupleIter (n + 2) l3 0 →
      (∀ c o, s.heap.get? c = some o → h'.get? c = some o) → Q (.ref (n + 5)) { s with heap := h' }) : wpAny (model prog w) A (call (.type "zip") [.ref l1, .ref l2, .ref l3]) Q E s := by
  refine callType_new F.called_zip (by decide) (typeCall_zip_3 _ _ _) (newCall_zip_3 _ _ _) (fun obj => args_object_init_4 obj _ _ _) F.entry_zip_new (meets_newL l1 l2 l3 xs ys vs) ⟨q1, q2, q3, ?_⟩
  generalize hp : itr "list_iterator" l1 = p
  generalize hq : itr "tuple_iterator" l2 = q
  generalize hr : itr "tuple_iterator" l3 = r
  have n1 : (s.heap.push p).objs.size = s.heap.objs.size + 1 := Heap.size_push ..
  have n2 : ((s.heap.push p).push q).objs.size = s.heap.objs.size + 2 := by rw [Heap.size_push, n1]
  have n3 : (thr s.heap p q r).objs.size = s.heap.objs.size + 3 := by rw [Heap.size_push, n2]
  have n4 : (fou s.heap p q r).objs.size = s.heap.objs.size + 4 := by rw [Heap.size_push, n3]
  have n5 : (fiv s.heap p q r).objs.size = s.heap.objs.size + 5 := by rw [Heap.size_push, n4]
  have kp : ∀ {h : Heap} {o r : Obj} {c : Addr}, h.get? c = some o → (h.push r).get? c = some o := fun e => Heap.get?_push_of_some _ e
  have f1 : p.isFreed = false := by rw [← hp]; rfl
  have f2 : q.isFreed = false := by rw [← hq]; rfl
  have f3 : r.isFreed = false := by rw [← hr]; rfl
  have a1 : (six s.heap p q r).get? s.heap.objs.size = some p := kp (kp (kp (kp (kp (Heap.get?_push_size _ f1)))))
  have a2 : (six s.heap p q r).get? (s.heap.push p).objs.size = some q := kp (kp (kp (kp (Heap.get?_push_size _ f2))))
  have a3 : (six s.heap p q r).get? ((s.heap.push p).push q).objs.size = some r := kp (kp (kp (Heap.get?_push_size _ f3)))
  have a4 : (six s.heap p q r).get? (thr s.heap p q r).objs.size = some _ := kp (kp (Heap.get?_push_size _ rfl))
  have a5 : (six s.heap p q r).get? (fou s.heap p q r).objs.size = some _ := kp (Heap.get?_push_size _ rfl)
  have a6 : (six s.heap p q r).get? (fiv s.heap p q r).objs.size = some _ := Heap.get?_push_size _ rfl
  show _ ∧ _
  rw [n3, n4, n5] at a6
  rw [n1, n2, n3] at a4
  rw [n4] at a5
  rw [n1] at a2
  rw [n2] at a3
  rw [n5]
  subst hp hq hr
  exact ⟨⟨_, a6, rfl⟩, h _ _ rfl a6 a4 a5 ⟨_, a1, rfl, rfl⟩ ⟨_, a2, rfl, rfl⟩ ⟨_, a3, rfl, rfl⟩ fun c o e => kp (kp (kp (kp (kp (kp e)))))⟩
end
section
variable {prog : Program} {w : World} {A : Around} {E : Value → Shared → Prop} {s : Shared}
theorem call_zip3T {l1 l2 l3 : Addr} {xs ys vs : Array Value} {Q : Value → Shared → Prop} (q1 : s.heap.IsTuple l1 xs) (q2 : s.heap.IsTuple l2 ys) (q3 : s.heap.IsTuple l3 vs)
    (h : ∀ h' n, n = s.heap.objs.size → IsZip h' (n + 5) (n + 3) (n + 4) .none → IsTri h' (n + 3) (.ref n) (.ref (n + 1)) (.ref (n + 2)) → IsTri h' (n + 4) .none .none .none → h'.IsTupleIter n l1 0 → h'.IsTupleIter (n + 1) l2 0 → h'.IsTupleIter (n + 2) l3 0 →
      (∀ c o, s.heap.get? c = some o → h'.get? c = some o) → Q (.ref (n + 5)) { s with heap := h' }) : wpAny (model prog w) A (call (.type "zip") [.ref l1, .ref l2, .ref l3]) Q E s := by
  refine callType_new F.called_zip (by decide) (typeCall_zip_3 _ _ _) (newCall_zip_3 _ _ _) (fun obj => args_object_init_4 obj _ _ _) F.entry_zip_new (meets_newT l1 l2 l3 xs ys vs) ⟨q1, q2, q3, ?_⟩
  generalize hp : itr "tuple_iterator" l1 = p
  generalize hq : itr "tuple_iterator" l2 = q
  generalize hr : itr "tuple_iterator" l3 = r
  have n1 : (s.heap.push p).objs.size = s.heap.objs.size + 1 := Heap.size_push ..
  have n2 : ((s.heap.push p).push q).objs.size = s.heap.objs.size + 2 := by rw [Heap.size_push, n1]
  have n3 : (thr s.heap p q r).objs.size = s.heap.objs.size + 3 := by rw [Heap.size_push, n2]
  have n4 : (fou s.heap p q r).objs.size = s.heap.objs.size + 4 := by rw [Heap.size_push, n3]
  have n5 : (fiv s.heap p q r).objs.size = s.heap.objs.size + 5 := by rw [Heap.size_push, n4]
  have kp : ∀ {h : Heap} {o r : Obj} {c : Addr}, h.get? c = some o → (h.push r).get? c = some o := fun e => Heap.get?_push_of_some _ e
  have f1 : p.isFreed = false := by rw [← hp]; rfl
  have f2 : q.isFreed = false := by rw [← hq]; rfl
  have f3 : r.isFreed = false := by rw [← hr]; rfl
  have a1 : (six s.heap p q r).get? s.heap.objs.size = some p := kp (kp (kp (kp (kp (Heap.get?_push_size _ f1)))))
  have a2 : (six s.heap p q r).get? (s.heap.push p).objs.size = some q := kp (kp (kp (kp (Heap.get?_push_size _ f2))))
  have a3 : (six s.heap p q r).get? ((s.heap.push p).push q).objs.size = some r := kp (kp (kp (Heap.get?_push_size _ f3)))
  have a4 : (six s.heap p q r).get? (thr s.heap p q r).objs.size = some _ := kp (kp (Heap.get?_push_size _ rfl))
  have a5 : (six s.heap p q r).get? (fou s.heap p q r).objs.size = some _ := kp (Heap.get?_push_size _ rfl)
  have a6 : (six s.heap p q r).get? (fiv s.heap p q r).objs.size = some _ := Heap.get?_push_size _ rfl
  show _ ∧ _
  rw [n3, n4, n5] at a6
  rw [n1, n2, n3] at a4
  rw [n4] at a5
  rw [n1] at a2
  rw [n2] at a3
  rw [n5]
  subst hp hq hr
  exact ⟨⟨_, a6, rfl⟩, h _ _ rfl a6 a4 a5 ⟨_, a1, rfl, rfl⟩ ⟨_, a2, rfl, rfl⟩ ⟨_, a3, rfl, rfl⟩ fun c o e => kp (kp (kp (kp (kp (kp e)))))⟩
end
theorem ends_tup {prog : Program} {w : World} {it l : Addr} {k : Nat} {xs : Array Value} (hx : xs[k]? = none) : Ends prog w it (fun h => h.IsTupleIter it l k ∧ h.IsTuple l xs) :=
  fun _ _ _ _ hh p h => RZ.nextOf_tuple_end hh p.1 p.2 hx h
theorem ap_at (n : Nat) : Ap3 (n + 5) (n + 3) (n + 4) n (n + 1) (n + 2) ∧ ∀ l : Nat, l < n → l ≠ n + 5 ∧ l ≠ n + 4 ∧ l ≠ n ∧ l ≠ n + 1 := by
  have ne : ∀ {a b : Nat}, (a < b ∨ b < a) → (a : Addr) ≠ (b : Addr) := fun {a b} h z => by
    have z' : a = b := z
    omega
  refine ⟨⟨ne (by omega), ne (by omega), ne (by omega), ne (by omega), ne (by omega), ne (by omega), ne (by omega), ne (by omega), ne (by omega), ne (by omega), ne (by omega), ne (by omega), ne (by omega), ne (by omega), ne (by omega)⟩, fun l h => ⟨by omega, by omega, by omega, by omega⟩⟩
end ZM
namespace ZM
open PySem PySem.Spec PyProof.Rows L2
/-- the one at a and the tuples at b, d as they stand at each turn, the items in new triples; stopped by the first -/
def It3L (K : PySem.W.Frag) (a b d : Addr) : It :=
  ⟨fun i H => ∃ (xs ys vs : List V) (x y v : V), SqL K H a xs ∧ SqT K H b ys ∧ SqT K H d vs ∧ xs[i]? = some x ∧ ys[i]? = some y ∧ vs[i]? = some v,
    fun i H u H' => ∃ T x y v, u = .ref T ∧ H T = none ∧ H' = upd H T (.tup [x, y, v]) ∧ (∀ xs, SqL K H a xs → xs[i]? = some x) ∧ (∀ ys, SqT K H b ys → ys[i]? = some y) ∧ ∀ vs, SqT K H d vs → vs[i]? = some v,
    fun i H => ∃ xs : List V, SqL K H a xs ∧ xs.length ≤ i⟩
theorem walk_zip3L {K : PySem.W.Frag} {a b d : Addr} {xs ys vs : List V} (hl : xs.length = ys.length) (hl2 : xs.length = vs.length) : Walk (It3L K a b d) xs.length (fun H => SqL K H a xs ∧ SqT K H b ys ∧ SqT K H d vs) (fun i H u H' => ∃ T x y v, u = .ref T ∧ H T = none ∧ H' = upd H T (.tup [x, y, v]) ∧ xs[i]? = some x ∧ ys[i]? = some y ∧ vs[i]? = some v) :=
  ⟨fun i _ hi q => ⟨xs, ys, vs, xs[i], ys[i]'(by omega), vs[i]'(by omega), q.1, q.2.1, q.2.2, List.getElem?_eq_getElem hi, List.getElem?_eq_getElem (by omega), List.getElem?_eq_getElem (by omega)⟩, fun _ q => ⟨xs, q.1, Nat.le_refl _⟩, fun _ _ _ _ _ q y => by
    obtain ⟨T, x, y, v, e, n, e2, f1, f2, f3⟩ := y
    exact ⟨T, x, y, v, e, n, e2, f1 _ q.1, f2 _ q.2.1, f3 _ q.2.2⟩⟩
theorem turn_zip3L {P : Program} {w : World} {K : PySem.W.Frag} {elts : List Expr} {kk : Nat} {tpos : Pos} {a b d z TI TO i1 i2 i3 : Addr} (D : Ap3 z TI TO i1 i2 i3) (az : a ≠ z) (bz : b ≠ z) (dz : d ≠ z) (bo : b ≠ TO) (bi : b ≠ i1) (dO : d ≠ TO) (di : d ≠ i1) (dj : d ≠ i2) :
    Turn P w K (.Tuple elts kk tpos) (It3L K a b d) [z, TI, TO, i1, i2, i3] z (fun i h => IsZip h z TI TO .none ∧ IsTri h TI (.ref i1) (.ref i2) (.ref i3) ∧ (∃ x y v, IsTri h TO x y v) ∧ h.IsListIter i1 a i ∧ h.IsTupleIter i2 b i ∧ h.IsTupleIter i3 d i) where
  mem := List.mem_cons_self
  obj := fun i h st c hc => by
    obtain ⟨hz, hTI, ⟨x, y, v, hTO⟩, ⟨o1, e1, _, d1⟩, ⟨o2, e2, _, d2⟩, ⟨o3, e3, _, d3⟩⟩ := st
    simp only [List.mem_cons, List.not_mem_nil, or_false] at hc
    rcases hc with rfl | rfl | rfl | rfl | rfl | rfl
    · exact ⟨_, hz, fun v q => nomatch q⟩
    · exact ⟨_, hTI, fun v q => nomatch q⟩
    · exact ⟨_, hTO, fun v q => nomatch q⟩
    · exact ⟨o1, e1, fun v q => by rw [d1] at q; cases q⟩
    · exact ⟨o2, e2, fun v q => by rw [d2] at q; cases q⟩
    · exact ⟨o3, e3, fun v q => by rw [d3] at q; cases q⟩
  keep := fun i h h' st k => by
    obtain ⟨hz, hTI, ⟨x, y, v, hTO⟩, h1, h2, h3⟩ := st
    exact ⟨k z (by simp) _ hz, k TI (by simp) _ hTI, ⟨x, y, v, k TO (by simp) _ hTO⟩, h1.at fun o q => k i1 (by simp) o q, h2.at fun o q => k i2 (by simp) o q, h3.at fun o q => k i3 (by simp) o q⟩
  item := by
    intro X hP hw hK hc i pins s σ H E I hf st hg
    subst hP hw hK
    obtain ⟨hz, hTI, ⟨x0, y0, v0, hTO⟩, h1, h2, h3⟩ := st
    obtain ⟨xs, ys, vs, x, y, v, hqx, hqy, hqv, hx, hy, hv⟩ := hg
    obtain ⟨us, ru, p1, _⟩ := I.list hqx
    obtain ⟨ws, rw', p2, _⟩ := I.tuple hqy
    obtain ⟨ts, rt, p3, _⟩ := I.tuple hqv
    obtain ⟨u, hu, r1⟩ := ru.get hx
    obtain ⟨u2, hu2, r2⟩ := rw'.get hy
    obtain ⟨u3, hu3, r3⟩ := rt.get hv
    have zlt : z < s.heap.objs.size := Heap.lt_size hz
    have below : ∀ c ∈ [z, TI, TO, i1, i2, i3], c < s.heap.objs.size := fun c hc => by
      simp only [List.mem_cons, List.not_mem_nil, or_false] at hc
      rcases hc with rfl | rfl | rfl | rfl | rfl | rfl
      · exact zlt
      · exact Heap.lt_size hTI
      · exact Heap.lt_size hTO
      · obtain ⟨_, e, _⟩ := h1; exact Heap.lt_size e
      · obtain ⟨_, e, _⟩ := h2; exact Heap.lt_size e
      · obtain ⟨_, e, _⟩ := h3; exact Heap.lt_size e
    refine next_item3 D (gives_list (xs := us.toArray) (x := u) (by simpa using hu)) (gives_tup (xs := ws.toArray) (x := u2) (by simpa using hu2)) (gives_tup (xs := ts.toArray) (x := u3) (by simpa using hu3)) (off_list D.i1z az) (off_tup D.i2z bz) (off_tup D.TOi2.symm bo) (off_tup D.i12.symm bi) (off_tup D.i3z dz) (off_tup D.TOi3.symm dO) (off_tup D.i13.symm di) (off_tup D.i23.symm dj)
      hz hTI hTO ⟨h1, p1.isList⟩ ⟨h2, p2⟩ ⟨h3, p3⟩ fun h' g1 g2 g3 z' TO' q1 k1 q2 k2 q3 k3 hT hk => ⟨_, rfl, wpAny_letOwnedTupleGo_zip (s := { s with heap := h' }) z' fun h'' z'' sb => ?_⟩
    have up : ∀ c o, c ≠ z → h'.get? c = some o → h''.get? c = some o := fun c o n e => (sb.2 c n).trans e
    have new : ObjOk X.prog X.w (upd H s.heap.objs.size (.tup [x, y, v])) h'' s.heap.objs.size (.tup [x, y, v]) :=
      ⟨by show 3 ≤ sizeLine; decide, [u, u2, u3], .cons r1 (.cons r2 (.cons r3 .nil)), ⟨_, up _ _ (Nat.ne_of_gt zlt) hT, rfl, _, rfl⟩⟩
    have I1 : Inv X pins σ (upd H s.heap.objs.size (.tup [x, y, v])) { s with heap := h'' } :=
      I.turnedNew (t' := s.toks) (ch := [z, TI, TO, i1, i2, i3]) (fun c o hb q => by
        simp only [List.mem_cons, List.not_mem_nil, or_false, not_or] at hb
        exact up c o hb.1 (hk c o hb.1 hb.2.2.1 hb.2.2.2.1 hb.2.2.2.2.1 hb.2.2.2.2.2 q)) hf (Nat.le_refl _) new
    refine ⟨.ref s.heap.objs.size, _, I1, rfl, ⟨_, x, y, v, rfl, I.hok.fresh (Nat.le_refl _), rfl, fun l hl => by rw [I.list_inj hl hqx]; exact hx, fun l hl => by rw [I.tuple_inj hl hqy]; exact hy, fun l hl => by rw [I.tuple_inj hl hqv]; exact hv⟩,
      ⟨z'', up _ _ D.TIz (hk _ _ D.TIz D.TITO D.TIi1 D.TIi2 D.TIi3 hTI), ⟨u, u2, u3, up _ _ D.TOz TO'⟩, q1.at fun o e => up _ o D.i1z (k1 o e), q2.at fun o e => up _ o D.i2z (k2 o e), q3.at fun o e => up _ o D.i3z (k3 o e)⟩, fun c hcm => ?_⟩
    rw [upd_ne (Nat.ne_of_lt (below c hcm))]
    exact (hf c hcm).1
  done := by
    intro X hP hw hK hc i pins s σ H E I hf st hg
    subst hP hw hK
    obtain ⟨hz, hTI, hTO, h1, h2, h3⟩ := st
    obtain ⟨xs, hqx, hend⟩ := hg
    obtain ⟨us, ru, p1, _⟩ := I.list hqx
    have l1 := ru.length
    exact next_end3 (I.ok.hd hc) D.i1z (ends_list (xs := us.toArray) (by simp; omega)) (off_list D.i1z az) hz hTI ⟨h1, p1.isList⟩ fun h' hk => ⟨rfl, I.turnedL (t' := s.toks) (ch := [z, TI, TO, i1, i2, i3]) (fun c o hb q => by
      simp only [List.mem_cons, List.not_mem_nil, or_false, not_or] at hb
      exact hk c o hb.1 hb.2.2.2.1 q) hf⟩
  self := fun A i s Q E st h => wpAny_pyIter_zip st.1 h
def iZip3L (K : PySem.W.Frag) (ta : TA) : TI := fun σ H R => ta σ H fun us H1 => ∃ a b d xs ys vs, us = [.ref a, .ref b, .ref d] ∧ SqL K H1 a xs ∧ SqT K H1 b ys ∧ SqT K H1 d vs ∧ R (It3L K a b d) H1
theorem pi_zip3L {X : Cx} {e e2 e3 : Expr} {ta : TA} {p pos tpos : Pos} {elts : List Expr} {kk : Nat} (hg : Gl X "zip") (hm : X.mg "zip" = none) (ha : PA X [e, e2, e3] ta)
    (hs : starEach [e, e2, e3] X.env = (false, eval e X.env) :: starEach [e2, e3] X.env := by rfl) (hpl : (backTo pos (starEach [e2, e3] X.env)).any (·.1) = false := by rfl) :
    PI X (.Tuple elts kk tpos) (.Call (.Name "zip" p) [e, e2, e3] [] pos) (iZip3L X.K ta) := by
  refine ⟨fun pins s σ H R I h => ?_⟩
  refine Call_ (ld_blt I hg hm PyProof.Rows.boot_zip (PyProof.Rows.callWith_type1 (thn (ha.run pos pins s σ H _ I h) fun us s1 ⟨vs, H1, I1, r1, q1⟩ => ?_) hs hpl))
  obtain ⟨a, b, d, xs, ys, zs, ex, hqx, hqy, hqz, q⟩ := q1
  subst ex
  cases r1 with
  | cons r rr =>
    cases rr with
    | cons r' rr =>
      cases rr with
      | cons r'' rr =>
        cases rr
        cases r
        cases r'
        cases r''
        obtain ⟨us, ru, p1, _⟩ := I1.list hqx
        obtain ⟨ws, rw', p2, _⟩ := I1.tuple hqy
        obtain ⟨ts, rt, p3, _⟩ := I1.tuple hqz
        obtain ⟨o2, ho2, _⟩ := id p2
        obtain ⟨o3, ho3, _⟩ := id p3
        have lt1 := p1.lt
        refine call_zip3L p1.isList (show s1.heap.IsTuple b ws.toArray from p2) (show s1.heap.IsTuple d ts.toArray from p3) fun h' n en hz hTI hTO h1 h2 h3 hk => wpAny_pyIter_zip hz ?_
        have I2 : Inv X pins σ H1 { s1 with heap := h' } := I1.kept (t' := s1.toks) hk
        subst en
        obtain ⟨D, off⟩ := ap_at s1.heap.objs.size
        have offa := off a lt1
        have offb := off b (Heap.lt_size ho2)
        have offd := off d (Heap.lt_size ho3)
        refine ⟨s1.heap.objs.size + 5, [s1.heap.objs.size + 5, s1.heap.objs.size + 3, s1.heap.objs.size + 4, s1.heap.objs.size, s1.heap.objs.size + 1, s1.heap.objs.size + 2], _, _, H1, rfl, I2, turn_zip3L D offa.1 offb.1 offd.1 offb.2.1 offb.2.2.1 offd.2.1 offd.2.2.1 offd.2.2.2, ⟨hz, hTI, ⟨_, _, _, hTO⟩, h1, h2, h3⟩, fun c hc => ?_, q⟩
        have le : s1.heap.objs.size ≤ c := by
          simp only [List.mem_cons, List.not_mem_nil, or_false] at hc
          rcases hc with h | h | h | h | h | h <;> rw [h]
          · exact Nat.le_add_right _ _
          · exact Nat.le_add_right _ _
          · exact Nat.le_add_right _ _
          · exact Nat.le_refl _
          · exact Nat.le_add_right _ _
          · exact Nat.le_add_right _ _
        exact I1.fpOk le (I1.hok.fresh le)
/-- the one at a and the tuples at b, d as they stand at each turn, the items in new triples; stopped by the first -/
def It3T (K : PySem.W.Frag) (a b d : Addr) : It :=
  ⟨fun i H => ∃ (xs ys vs : List V) (x y v : V), SqT K H a xs ∧ SqT K H b ys ∧ SqT K H d vs ∧ xs[i]? = some x ∧ ys[i]? = some y ∧ vs[i]? = some v,
    fun i H u H' => ∃ T x y v, u = .ref T ∧ H T = none ∧ H' = upd H T (.tup [x, y, v]) ∧ (∀ xs, SqT K H a xs → xs[i]? = some x) ∧ (∀ ys, SqT K H b ys → ys[i]? = some y) ∧ ∀ vs, SqT K H d vs → vs[i]? = some v,
    fun i H => ∃ xs : List V, SqT K H a xs ∧ xs.length ≤ i⟩
theorem walk_zip3T {K : PySem.W.Frag} {a b d : Addr} {xs ys vs : List V} (hl : xs.length = ys.length) (hl2 : xs.length = vs.length) : Walk (It3T K a b d) xs.length (fun H => SqT K H a xs ∧ SqT K H b ys ∧ SqT K H d vs) (fun i H u H' => ∃ T x y v, u = .ref T ∧ H T = none ∧ H' = upd H T (.tup [x, y, v]) ∧ xs[i]? = some x ∧ ys[i]? = some y ∧ vs[i]? = some v) :=
  ⟨fun i _ hi q => ⟨xs, ys, vs, xs[i], ys[i]'(by omega), vs[i]'(by omega), q.1, q.2.1, q.2.2, List.getElem?_eq_getElem hi, List.getElem?_eq_getElem (by omega), List.getElem?_eq_getElem (by omega)⟩, fun _ q => ⟨xs, q.1, Nat.le_refl _⟩, fun _ _ _ _ _ q y => by
    obtain ⟨T, x, y, v, e, n, e2, f1, f2, f3⟩ := y
    exact ⟨T, x, y, v, e, n, e2, f1 _ q.1, f2 _ q.2.1, f3 _ q.2.2⟩⟩
theorem turn_zip3T {P : Program} {w : World} {K : PySem.W.Frag} {elts : List Expr} {kk : Nat} {tpos : Pos} {a b d z TI TO i1 i2 i3 : Addr} (D : Ap3 z TI TO i1 i2 i3) (az : a ≠ z) (bz : b ≠ z) (dz : d ≠ z) (bo : b ≠ TO) (bi : b ≠ i1) (dO : d ≠ TO) (di : d ≠ i1) (dj : d ≠ i2) :
    Turn P w K (.Tuple elts kk tpos) (It3T K a b d) [z, TI, TO, i1, i2, i3] z (fun i h => IsZip h z TI TO .none ∧ IsTri h TI (.ref i1) (.ref i2) (.ref i3) ∧ (∃ x y v, IsTri h TO x y v) ∧ h.IsTupleIter i1 a i ∧ h.IsTupleIter i2 b i ∧ h.IsTupleIter i3 d i) where
  mem := List.mem_cons_self
  obj := fun i h st c hc => by
    obtain ⟨hz, hTI, ⟨x, y, v, hTO⟩, ⟨o1, e1, _, d1⟩, ⟨o2, e2, _, d2⟩, ⟨o3, e3, _, d3⟩⟩ := st
    simp only [List.mem_cons, List.not_mem_nil, or_false] at hc
    rcases hc with rfl | rfl | rfl | rfl | rfl | rfl
    · exact ⟨_, hz, fun v q => nomatch q⟩
    · exact ⟨_, hTI, fun v q => nomatch q⟩
    · exact ⟨_, hTO, fun v q => nomatch q⟩
    · exact ⟨o1, e1, fun v q => by rw [d1] at q; cases q⟩
    · exact ⟨o2, e2, fun v q => by rw [d2] at q; cases q⟩
    · exact ⟨o3, e3, fun v q => by rw [d3] at q; cases q⟩
  keep := fun i h h' st k => by
    obtain ⟨hz, hTI, ⟨x, y, v, hTO⟩, h1, h2, h3⟩ := st
    exact ⟨k z (by simp) _ hz, k TI (by simp) _ hTI, ⟨x, y, v, k TO (by simp) _ hTO⟩, h1.at fun o q => k i1 (by simp) o q, h2.at fun o q => k i2 (by simp) o q, h3.at fun o q => k i3 (by simp) o q⟩
  item := by
    intro X hP hw hK hc i pins s σ H E I hf st hg
    subst hP hw hK
    obtain ⟨hz, hTI, ⟨x0, y0, v0, hTO⟩, h1, h2, h3⟩ := st
    obtain ⟨xs, ys, vs, x, y, v, hqx, hqy, hqv, hx, hy, hv⟩ := hg
    obtain ⟨us, ru, p1, _⟩ := I.tuple hqx
    obtain ⟨ws, rw', p2, _⟩ := I.tuple hqy
    obtain ⟨ts, rt, p3, _⟩ := I.tuple hqv
    obtain ⟨u, hu, r1⟩ := ru.get hx
    obtain ⟨u2, hu2, r2⟩ := rw'.get hy
    obtain ⟨u3, hu3, r3⟩ := rt.get hv
    have zlt : z < s.heap.objs.size := Heap.lt_size hz
    have below : ∀ c ∈ [z, TI, TO, i1, i2, i3], c < s.heap.objs.size := fun c hc => by
      simp only [List.mem_cons, List.not_mem_nil, or_false] at hc
      rcases hc with rfl | rfl | rfl | rfl | rfl | rfl
      · exact zlt
      · exact Heap.lt_size hTI
      · exact Heap.lt_size hTO
      · obtain ⟨_, e, _⟩ := h1; exact Heap.lt_size e
      · obtain ⟨_, e, _⟩ := h2; exact Heap.lt_size e
      · obtain ⟨_, e, _⟩ := h3; exact Heap.lt_size e
    refine next_item3 D (gives_tup (xs := us.toArray) (x := u) (by simpa using hu)) (gives_tup (xs := ws.toArray) (x := u2) (by simpa using hu2)) (gives_tup (xs := ts.toArray) (x := u3) (by simpa using hu3)) (off_tup D.i1z az) (off_tup D.i2z bz) (off_tup D.TOi2.symm bo) (off_tup D.i12.symm bi) (off_tup D.i3z dz) (off_tup D.TOi3.symm dO) (off_tup D.i13.symm di) (off_tup D.i23.symm dj)
      hz hTI hTO ⟨h1, p1⟩ ⟨h2, p2⟩ ⟨h3, p3⟩ fun h' g1 g2 g3 z' TO' q1 k1 q2 k2 q3 k3 hT hk => ⟨_, rfl, wpAny_letOwnedTupleGo_zip (s := { s with heap := h' }) z' fun h'' z'' sb => ?_⟩
    have up : ∀ c o, c ≠ z → h'.get? c = some o → h''.get? c = some o := fun c o n e => (sb.2 c n).trans e
    have new : ObjOk X.prog X.w (upd H s.heap.objs.size (.tup [x, y, v])) h'' s.heap.objs.size (.tup [x, y, v]) :=
      ⟨by show 3 ≤ sizeLine; decide, [u, u2, u3], .cons r1 (.cons r2 (.cons r3 .nil)), ⟨_, up _ _ (Nat.ne_of_gt zlt) hT, rfl, _, rfl⟩⟩
    have I1 : Inv X pins σ (upd H s.heap.objs.size (.tup [x, y, v])) { s with heap := h'' } :=
      I.turnedNew (t' := s.toks) (ch := [z, TI, TO, i1, i2, i3]) (fun c o hb q => by
        simp only [List.mem_cons, List.not_mem_nil, or_false, not_or] at hb
        exact up c o hb.1 (hk c o hb.1 hb.2.2.1 hb.2.2.2.1 hb.2.2.2.2.1 hb.2.2.2.2.2 q)) hf (Nat.le_refl _) new
    refine ⟨.ref s.heap.objs.size, _, I1, rfl, ⟨_, x, y, v, rfl, I.hok.fresh (Nat.le_refl _), rfl, fun l hl => by rw [I.tuple_inj hl hqx]; exact hx, fun l hl => by rw [I.tuple_inj hl hqy]; exact hy, fun l hl => by rw [I.tuple_inj hl hqv]; exact hv⟩,
      ⟨z'', up _ _ D.TIz (hk _ _ D.TIz D.TITO D.TIi1 D.TIi2 D.TIi3 hTI), ⟨u, u2, u3, up _ _ D.TOz TO'⟩, q1.at fun o e => up _ o D.i1z (k1 o e), q2.at fun o e => up _ o D.i2z (k2 o e), q3.at fun o e => up _ o D.i3z (k3 o e)⟩, fun c hcm => ?_⟩
    rw [upd_ne (Nat.ne_of_lt (below c hcm))]
    exact (hf c hcm).1
  done := by
    intro X hP hw hK hc i pins s σ H E I hf st hg
    subst hP hw hK
    obtain ⟨hz, hTI, hTO, h1, h2, h3⟩ := st
    obtain ⟨xs, hqx, hend⟩ := hg
    obtain ⟨us, ru, p1, _⟩ := I.tuple hqx
    have l1 := ru.length
    exact next_end3 (I.ok.hd hc) D.i1z (ends_tup (xs := us.toArray) (by simp; omega)) (off_tup D.i1z az) hz hTI ⟨h1, p1⟩ fun h' hk => ⟨rfl, I.turnedL (t' := s.toks) (ch := [z, TI, TO, i1, i2, i3]) (fun c o hb q => by
      simp only [List.mem_cons, List.not_mem_nil, or_false, not_or] at hb
      exact hk c o hb.1 hb.2.2.2.1 q) hf⟩
  self := fun A i s Q E st h => wpAny_pyIter_zip st.1 h
def iZip3T (K : PySem.W.Frag) (ta : TA) : TI := fun σ H R => ta σ H fun us H1 => ∃ a b d xs ys vs, us = [.ref a, .ref b, .ref d] ∧ SqT K H1 a xs ∧ SqT K H1 b ys ∧ SqT K H1 d vs ∧ R (It3T K a b d) H1
theorem pi_zip3T {X : Cx} {e e2 e3 : Expr} {ta : TA} {p pos tpos : Pos} {elts : List Expr} {kk : Nat} (hg : Gl X "zip") (hm : X.mg "zip" = none) (ha : PA X [e, e2, e3] ta)
    (hs : starEach [e, e2, e3] X.env = (false, eval e X.env) :: starEach [e2, e3] X.env := by rfl) (hpl : (backTo pos (starEach [e2, e3] X.env)).any (·.1) = false := by rfl) :
    PI X (.Tuple elts kk tpos) (.Call (.Name "zip" p) [e, e2, e3] [] pos) (iZip3T X.K ta) := by
  refine ⟨fun pins s σ H R I h => ?_⟩
  refine Call_ (ld_blt I hg hm PyProof.Rows.boot_zip (PyProof.Rows.callWith_type1 (thn (ha.run pos pins s σ H _ I h) fun us s1 ⟨vs, H1, I1, r1, q1⟩ => ?_) hs hpl))
  obtain ⟨a, b, d, xs, ys, zs, ex, hqx, hqy, hqz, q⟩ := q1
  subst ex
  cases r1 with
  | cons r rr =>
    cases rr with
    | cons r' rr =>
      cases rr with
      | cons r'' rr =>
        cases rr
        cases r
        cases r'
        cases r''
        obtain ⟨us, ru, p1, _⟩ := I1.tuple hqx
        obtain ⟨ws, rw', p2, _⟩ := I1.tuple hqy
        obtain ⟨ts, rt, p3, _⟩ := I1.tuple hqz
        obtain ⟨o2, ho2, _⟩ := id p2
        obtain ⟨o3, ho3, _⟩ := id p3
        have lt1 : a < s1.heap.objs.size := by obtain ⟨o1, ho1, _⟩ := id p1; exact Heap.lt_size ho1
        refine call_zip3T p1 (show s1.heap.IsTuple b ws.toArray from p2) (show s1.heap.IsTuple d ts.toArray from p3) fun h' n en hz hTI hTO h1 h2 h3 hk => wpAny_pyIter_zip hz ?_
        have I2 : Inv X pins σ H1 { s1 with heap := h' } := I1.kept (t' := s1.toks) hk
        subst en
        obtain ⟨D, off⟩ := ap_at s1.heap.objs.size
        have offa := off a lt1
        have offb := off b (Heap.lt_size ho2)
        have offd := off d (Heap.lt_size ho3)
        refine ⟨s1.heap.objs.size + 5, [s1.heap.objs.size + 5, s1.heap.objs.size + 3, s1.heap.objs.size + 4, s1.heap.objs.size, s1.heap.objs.size + 1, s1.heap.objs.size + 2], _, _, H1, rfl, I2, turn_zip3T D offa.1 offb.1 offd.1 offb.2.1 offb.2.2.1 offd.2.1 offd.2.2.1 offd.2.2.2, ⟨hz, hTI, ⟨_, _, _, hTO⟩, h1, h2, h3⟩, fun c hc => ?_, q⟩
        have le : s1.heap.objs.size ≤ c := by
          simp only [List.mem_cons, List.not_mem_nil, or_false] at hc
          rcases hc with h | h | h | h | h | h <;> rw [h]
          · exact Nat.le_add_right _ _
          · exact Nat.le_add_right _ _
          · exact Nat.le_add_right _ _
          · exact Nat.le_refl _
          · exact Nat.le_add_right _ _
          · exact Nat.le_add_right _ _
        exact I1.fpOk le (I1.hok.fresh le)
end ZM

namespace My
open PySem PySem.Spec PyProof.Rows L2 GX GxR
abbrev s_scKMore : Stmt := topS 40
abbrev n_scKMore : List Str := ["_law_m", "_law_begin", "_law_end", "_law_amount_here", "_law_time_here", "_law_edge", "_law_a", "_law_b", "_law_c"]
theorem scKMore : FnScope n_scKMore ["_law_m", "_law_begin", "_law_end", "_law_amount_here"] (defScope s_scKMore) := ⟨rfl, rfl, rfl, by decide +kernel, rfl, by decide +kernel, by decide +kernel⟩
def moreB (ns : List Int) (es : List Ent) (am : List Int) (t : Int) : Bool := !fitB (List.zipWith (· + ·) (netB ns.length (es.map bwOf) t) am) ns
def within (b e t : Int) : Bool := decide (b < t) && decide (t < e)
def spMore : Sp := fun vs H Q _ => ∃ (m pr rd : Addr) (ns : List Int) (top wide : Int) (rows : List (Str × V)) (es : List Ent) (b e : Int) (p : Addr) (am : List Int), vs = [.ref m, .int b, .int e, .ref p] ∧ MAt H m pr rd ns top wide rows ∧ Ents H rows es ∧ es.length ≤ 180 ∧ (∀ r ∈ es, r.am.length = ns.length) ∧ H p = some (.tup (am.map V.int)) ∧ am.length = ns.length ∧
  ∀ (H' : Hp) (ns' : List Int), ns'.Perm (edgesOf es) → ns'.Pairwise (· ≤ ·) → Same H H' → Q (oI ((b :: ns'.filter (within b e)).find? (moreB ns es am))) H'
theorem any_fit : ∀ {xs ys : List Int}, xs.length = ys.length → (List.zipWith (fun a c : Int => decide (c < a)) xs ys).any _root_.id = !fitB xs ys
  | [], [], _ => rfl
  | x :: xs, y :: ys, h => by
    have ih := any_fit (xs := xs) (ys := ys) (by simpa using h)
    have e : fitB (x :: xs) (y :: ys) = (decide (x ≤ y) && fitB xs ys) := rfl
    rw [List.zipWith_cons_cons, List.any_cons, ih, e, Bool.not_and]
    congr 1
    by_cases c : x ≤ y
    · simp [c]
    · simp [c]
      omega
section
variable {P : Program} {w : World} {K : PySem.W.Frag} {mg : Str → Option Value} {base : Heap}
set_option maxHeartbeats 2000000 in
theorem ok_kmore {f fE fL : Addr} {fd fdE fdL : FuncData} {k : Nat} (F : Fun K "_law_first_more" "_law_first_more" s_scKMore f fd) (X : Txt mg) (mAny : mg "any" = none)
    (GE : FnOk P w K mg base CX0 k fE fdE ["_law_m"] spEdges) (mE : mg "_law_edges" = some (.ref fE)) (kE : PySem.W.keepIn K (.ref fE) = true) (bE : L2.Binds K fdE ["_law_m"] [])
    (GL : FnOk P w K mg base CX0 k fL fdL ["_law_m", "_law_time_here"] spMLoad) (mL : mg "_law_load" = some (.ref fL)) (kL : PySem.W.keepIn K (.ref fL) = true) (bL : L2.Binds K fdL ["_law_m", "_law_time_here"] []) :
    FnOk P w K mg base CX0 (k + 1) f fd ["_law_m", "_law_begin", "_law_end", "_law_amount_here"] spMore := by
  refine F.ok scKMore (fun vs H Q E h => ?_) (fun cdv A outer s H vs Q E hr h => ?_)
  · obtain ⟨m, pr, rd, ns, top, wide, rows, es, b, e, p, am, rfl, _⟩ := h
    rfl
  · obtain ⟨m, pr, rd, ns, top, wide, rows, es, b, e, p, am, rfl, M, hE, hl, aml, hp, lam, q⟩ := h
    have n8 := M.len8
    refine ⟨_, (C8.pss_cut (ps_for PassesOwn.never rfl (pi_list (pe_op op_cat (pe_lst (pa_cons (pv 1) pa_nil)) (pe_lc (own := [("_law_edge", 5)]) (g := (gName 5)) rfl scKMore.nd (pi_list (pe_call GE hr (by rfl) mE kE bE .nil pass0 (pa_cons (pv 0) pa_nil))) (blkOk_by (own := [("_law_edge", 5)]) (N := n_scKMore) (sc := defScope s_scKMore) (by decide +kernel)) (fun _ _ _ _ _ => (pg_name (i := 5) scKMore.nd rfl (.inl rfl))) (fun _ _ _ _ _ => pts_one (pt_chain op_lt op_lt (pv 1) (pv 5) (pv 2))) (fun _ _ _ _ _ => (pv 5))))) (pg_name (i := 4) scKMore.nd rfl (.inl rfl))
        (pss_one (ps_if (pt_val (pe_callB (cr_any rfl) (by rfl) mAny (by decide +kernel) (pa_cons (pe_lc (own := [("_law_a", 6), ("_law_b", 7), ("_law_c", 8)]) (g := (gTup K 3 (gCons (gName 6) (gCons (gName 7) (gCons (gName 8) gNil))))) (tt := tYes) rfl scKMore.nd (ZM.pi_zip3T (by rfl) X.zip (pa_cons (pe_call GL hr (by rfl) mL kL bL .nil pass0 (pa_cons (pv 0) (pa_cons (pv 4) pa_nil))) (pa_cons (pv 3) (pa_cons (pe_dget (hu_of hr) (pv 0) pe_str (fun _ _ => rfl)) pa_nil)))) (blkOk_by (own := [("_law_a", 6), ("_law_b", 7), ("_law_c", 8)]) (N := n_scKMore) (sc := defScope s_scKMore) (by decide +kernel)) (fun _ _ _ _ _ => (pg_tup rfl (pgs_cons (pg_name (i := 6) scKMore.nd rfl (.inl rfl)) (pgs_cons (pg_name (i := 7) scKMore.nd rfl (.inl rfl)) (pgs_cons (pg_name (i := 8) scKMore.nd rfl (.inl rfl)) pgs_nil))))) (fun _ _ _ _ _ => pts_nil) (fun _ _ _ _ _ => (pe_cmpR op_gt (pe_op op_add (pv 6) (pv 7)) (pv 8) (nomark _)))) pa_nil)))
          (pss_one (ps_ret (pv 4)))
          pss_nil)))
      (pss_one (ps_ret pe_non))), ?_⟩
    refine ⟨fun σ H' => ∃ ns' : List Int, ns'.Perm (edgesOf es) ∧ ns'.Pairwise (· ≤ ·) ∧ Same H H' ∧ (b :: ns'.filter (within b e)).find? (moreB ns es am) = none, ?_, fun σ H' hm => ?_⟩
    · refine ⟨_, rfl, by show 1 ≤ sizeLine; decide, fun l0 n0 => ?_⟩
      have s0 : Same H (upd H l0 (.lst [.int b])) := same_upd n0
      have e0 : upd H l0 (.lst [.int b]) l0 = some (.lst [.int b]) := upd_same
      generalize upd H l0 (.lst [.int b]) = H0 at s0 e0 ⊢
      refine ⟨_, rfl, m, pr, rd, ns, top, wide, rows, es, rfl, M.same s0, Ents.imp (fun v r h => h.same s0) hE, by omega, fun p1 ns' H1 pm so s1 np1 ep1 => ⟨p1, rfl, ⟨_, SqL.of ep1⟩, fun D nD => ?_⟩⟩
      have ln : ns'.length = 2 * es.length := by rw [pm.length_eq, edges_len]
      refine lc_list (K := K) (a := p1) (xs := ns'.map V.int) (fun i H' => Same H1 H' ∧ H' D = some (.lst (((ns'.take i).filter (within b e)).map V.int)))
        ⟨same_upd nD, upd_same⟩ (fun i H' _ p => SqL.of (p.1 _ _ ep1)) (fun i x H2 hx p => ?_) (fun H2 p => ?_)
      · obtain ⟨q1, q2⟩ := p
        obtain ⟨t, ht, rfl⟩ := get_int hx
        have hi : i < ns'.length := (List.getElem?_eq_some_iff.mp ht).1
        have tk : (ns'.take (i + 1)).filter (within b e) = (ns'.take i).filter (within b e) ++ (if within b e t = true then [t] else []) := by
          rw [List.take_add_one, ht, List.filter_append]
          congr 1
          show List.filter _ [t] = _
          rw [List.filter_cons]
          rfl
        refine ⟨rfl, ?_⟩
        refine ⟨_, rfl, _, rfl, _, _, rfl, rfl, _, rfl, ite2 (fun e1 => ?_) (fun e1 => ?_)⟩
        · refine ⟨_, rfl, _, _, rfl, rfl, _, rfl, ite2 (fun e2 => ?_) (fun e2 => ?_)⟩
          · refine ⟨_, rfl, _, q2, ?_, same_put q1 nD, ?_⟩
            · have := List.length_filter_le (within b e) (ns'.take i)
              rw [List.length_take] at this
              rw [List.length_map]
              exact small1000 (by omega)
            · have wt : within b e t = true := by
                unfold within
                rw [Bool.and_eq_true]
                exact ⟨e1, e2⟩
              rw [upd_same, tk, if_pos wt, List.map_append]
              rfl
          · refine ⟨q1, ?_⟩
            rw [tk, if_neg (by unfold within; rw [eq_false_of_ne_true e2, Bool.and_false]; exact Bool.false_ne_true), List.append_nil]
            exact q2
        · refine ⟨false, rfl, iteF ⟨q1, ?_⟩⟩
          rw [tk, if_neg (by unfold within; rw [eq_false_of_ne_true e1, Bool.false_and]; exact Bool.false_ne_true), List.append_nil]
          exact q2
      obtain ⟨q1, q2⟩ := p
      rw [List.length_map, List.take_length] at q2
      have s12 := s1.trans q1
      have lf := List.length_filter_le (within b e) ns'
      refine ⟨l0, D, _, _, rfl, rfl, s12 _ _ e0, q2, ?_, fun p3 np3 => ⟨p3, rfl, ⟨_, SqL.of upd_same⟩, ?_⟩⟩
      · rw [List.length_map]
        show 1 + (ns'.filter (within b e)).length ≤ sizeLine
        exact Nat.le_of_lt (small1000 (by omega))
      have s3 : Same H (upd H2 p3 (.lst ([V.int b] ++ (ns'.filter (within b e)).map V.int))) := (s0.trans s12).trans (same_upd np3)
      have e3 : upd H2 p3 (.lst ([V.int b] ++ (ns'.filter (within b e)).map V.int)) p3 = some (.lst ((b :: ns'.filter (within b e)).map V.int)) := upd_same
      generalize upd H2 p3 (.lst ([V.int b] ++ (ns'.filter (within b e)).map V.int)) = H3 at s3 e3 ⊢
      generalize hts : (b :: ns'.filter (within b e)) = ts at e3
      have hq2 : ∀ H', Same H H' → Q (oI (ts.find? (moreB ns es am))) H' := fun H' s => by
        rw [← hts]
        exact q H' ns' pm so s
      refine for_list (xs := ts.map V.int) (fun i σ H' => ∃ (y4 : Option V), σ = [some (.ref m), some (.int b), some (.int e), some (.ref p), y4, none, none, none, none] ∧ Same H3 H' ∧ ∀ (j : Nat) (x : Int), j < i → ts[j]? = some x → moreB ns es am x = false)
        ⟨none, rfl, Same.refl _, fun j x hj => absurd hj (Nat.not_lt_zero _)⟩ (fun i σ H' _ p => ?_) (fun i x σ H6 hx p => ?_) (fun σ H6 p => ?_)
      · obtain ⟨_, _, s6, _⟩ := p
        exact SqL.of (s6 _ _ e3)
      · obtain ⟨y4, rfl, s6, no⟩ := p
        obtain ⟨t, ht, rfl⟩ := get_int hx
        have s06 := s3.trans s6
        refine ⟨_, rfl, _, rfl, m, pr, rd, ns, top, wide, rows, es, t, rfl, M.same s06, Ents.imp (fun v r h => h.same s06) hE, by omega, aml, fun p7 H7 s7 np7 ep7 => ?_⟩
        have s07 := s06.trans s7
        have M7 := M.same s07
        refine ⟨_, rfl, _, rfl, m, .ref pr, rfl, DGet.k (k := .inr "room") M7.dict, ?_⟩
        have lnet := netB_len ns.length (es.map bwOf) t
        have fo : moreB ns es am t = !fitB (List.zipWith (· + ·) (netB ns.length (es.map bwOf) t) am) ns := rfl
        generalize netB ns.length (es.map bwOf) t = net at ep7 lnet fo
        have lz : (List.zipWith (· + ·) net am).length = ns.length := by rw [List.length_zipWith]; omega
        rw [← any_fit lz] at fo
        refine ⟨p7, p, pr, _, _, _, rfl, SqT.of ep7, SqT.of (s07 _ _ hp), SqT.of M7.room, fun D3 nD3 => ?_⟩
        refine lc_it (ZM.walk_zip3T (by rw [List.length_map, List.length_map]; omega) (by rw [List.length_map, List.length_map]; omega)) (fun j H' => Same H7 H' ∧ H' D3 = some (.lst (((List.zipWith (fun a c : Int => decide (c < a)) (List.zipWith (· + ·) net am) ns).take j).map V.bl)))
          ⟨same_upd nD3, upd_same⟩ (fun j H' _ p => ⟨SqT.of (p.1 _ _ ep7), SqT.of (p.1 _ _ (s07 _ _ hp)), SqT.of (p.1 _ _ M7.room)⟩) (fun j v H8 H9 hj p y => ?_) (fun H8 p => ?_)
        · obtain ⟨T1, x1, x2, x3, rfl, nT, rfl, g1, g2, g3⟩ := y
          obtain ⟨z1, z2⟩ := p
          obtain ⟨x, hx, rfl⟩ := get_int g1
          obtain ⟨y, hy, rfl⟩ := get_int g2
          obtain ⟨c, hc, rfl⟩ := get_int g3
          have s9 : Same H8 (upd H8 T1 (.tup [.int x, .int y, .int c])) := same_upd nT
          have hj2 : j < net.length := (List.getElem?_eq_some_iff.mp hx).1
          refine ⟨T1, [.int x, .int y, .int c], rfl, SqT.of upd_same, rfl, _, _, rfl, _, _, rfl, _, _, rfl, rfl, rfl, ?_⟩
          refine ⟨_, rfl, _, rfl, x, y, rfl, rfl, _, rfl, _, _, rfl, rfl, _, s9 _ _ z2, ?_, same_putA (z1.trans s9) nD3, ?_⟩
          · rw [List.length_map, List.length_take]
            exact small1000 (by omega)
          · rw [upd_same, List.take_add_one, List.getElem?_zipWith, List.getElem?_zipWith, hx, hy, hc, List.map_append]
            rfl
        · obtain ⟨z1, z2⟩ := p
          rw [List.take_of_length_le (by rw [List.length_zipWith, List.length_map]; omega)] at z2
          refine ⟨D3, _, rfl, SqL.of z2, _, rfl, ite2 (fun g => ?_) (fun g => ?_)⟩
          · have hq := hq2 _ (s07.trans z1)
            rw [find_at no ht (by rw [fo]; exact g)] at hq
            exact ⟨_, rfl, hq⟩
          · refine ⟨_, rfl, (s6.trans s7).trans z1, fun j x hj hx => ?_⟩
            rcases Nat.lt_succ_iff_lt_or_eq.mp hj with h | h
            · exact no j x h hx
            · rw [h, ht] at hx
              cases hx
              rw [fo]
              exact eq_false_of_ne_true g
      · obtain ⟨y4, rfl, s6, no⟩ := p
        refine ⟨ns', pm, so, s3.trans s6, ?_⟩
        rw [hts]
        refine find_no fun x hx => ?_
        obtain ⟨j, hj⟩ := List.mem_iff_getElem?.mp hx
        exact no j x (by rw [List.length_map]; exact (List.getElem?_eq_some_iff.mp hj).1) hj
    · obtain ⟨ns', pm, so, s1, no⟩ := hm
      have hq := q H' ns' pm so s1
      rw [no] at hq
      exact hq
end
end My

set_option maxHeartbeats 1000000
namespace SX
open PySem PySem.W PySem.Spec PyProof.Rows L2
/-! sorted of a dict and of a list, texts all, however many -/
theorem rise_of : ∀ (l : List Str) (p : Str), (p :: l).Pairwise (fun a b => ltCps b.cps.toList a.cps.toList = false) → risingS p l = true
  | [], _, _ => rfl
  | x :: r, p, h => by
    rw [List.pairwise_cons] at h
    show (!ltCps x.cps.toList p.cps.toList && risingS x r) = true
    rw [h.1 x List.mem_cons_self, rise_of r x h.2]
    rfl
theorem sorted_of {l : List Str} (h : l.Pairwise (fun a b => ltCps b.cps.toList a.cps.toList = false)) : sortedS l = true := by
  cases l with
  | nil => rfl
  | cons x r => exact rise_of r x h
theorem merge_sorted (ys : List Str) : sortedS (ys.mergeSort (dataLe false PyData.str)) = true := by
  have tl := sortLe_total (listOrd itemOrd) false fun z : Str => keyToks (PyData.str z)
  have so := List.pairwise_mergeSort (le := dataLe false PyData.str) (fun a b c => tl.trans a b c) (fun a b => by rw [Bool.or_eq_true]; exact tl.total a b) ys
  refine sorted_of (so.imp fun {a b} h => ?_)
  have h' : (!dataLt (PyData.str b) (PyData.str a)) = true := h
  rw [dataLt_str, lt_meets] at h'
  simpa using h'
section
variable {X : Cx}
theorem str_alike (ys : List Str) : AllAlike (ys.map PyData.str) := by
  intro d hd d' hd'
  obtain ⟨z, _, rfl⟩ := List.mem_map.mp hd
  obtain ⟨z', _, rfl⟩ := List.mem_map.mp hd'
  rfl
theorem str_sortable (ys : List Str) : Sortable (ys.map PyData.str) := .inr fun d hd => by
  obtain ⟨z, _, rfl⟩ := List.mem_map.mp hd
  exact ⟨(fun h => by cases h), (fun xs h => by cases h)⟩
theorem each_str : ∀ {ys : List Str} {us : List Value}, Vals (ys.map V.str) us → EachIs (fun (v : Value) (z : Str) => RelV (.str z) v) us ys
  | [], us, r => by cases r; exact .nil
  | z :: ys, us, r => by cases r with | cons r t => exact .cons r (each_str t)
theorem vals_str {us : List Value} {ys : List Str} (e : EachIs (fun (v : Value) (z : Str) => RelV (.str z) v) us ys) : Vals (ys.map V.str) us := by
  induction e with
  | nil => exact .nil
  | cons r t ih => exact .cons r ih
/-- sorted(d), d's keys texts -/
def rSortDk : List V → Hp → VK → Prop := fun xs H Q => ∃ (a : Addr) (kvs : List (Key × V)) (ks : List Str), xs = [.ref a] ∧ Rd H a (.dK kvs) ∧ kvs.map (·.1) = ks.map Sum.inr ∧ ks.length < 1000 ∧ ∀ ys p, ys.Perm ks → sortedS ys = true → H p = none → Q (.ref p) (upd H p (.lst (ys.map V.str)))
theorem cr_sortDk (hcalm : X.calm = true) (hu : X.A.units + 64 < cLine) : CallR X (.builtin "sorted") rSortDk := by
  intro pins s σ H xs us Q I r h
  obtain ⟨a, kvs, ks, rfl, hd, hks, few, q⟩ := h
  rw [Vals.ref1 r]
  obtain ⟨z, lo, vs, rel, dd⟩ := dk_rd I.hok hd
  obtain ⟨ep, hat⟩ := dd.dictAt
  have kk : vs.map (·.1) = ks.map Sum.inr := rel.keys.symm.trans hks
  have len : vs.length = ks.length := by simpa using congrArg List.length kk
  have fits : vs.length ≤ sizeLine := by rw [len, sizeLine_eq]; omega
  refine Calls.call_function_entry kind_sorted plain_sorted entry_sorted (args_sorted1 _) ?_
  unfold Builtin.«sorted»
  refine wpAny_bind (m := checkCount "sorted" 1 1 _) (wpAny_pure ?_)
  refine wpAny_bind (PySem.W.kdu_collect (A := X.A.in1) (PySem.W.kdl_dict (knd := mixKind X.prog X.w) (kvs := vs) (ep := ep) lo) (I.ok.hd hcalm) hat fits fun h1 tk acc keep got => ?_)
  have la : acc.toList.length = ks.length := by rw [Array.length_toList, got.1, len]
  have tx : ∀ {us : List Value} {ks : List Str}, us.length = ks.length → (∀ (j : Nat) (v : Value) (k : Str), us[j]? = some v → ks[j]? = some k → RelV (.str k) v) → Vals (ks.map V.str) us := by
    intro us
    induction us with
    | nil =>
      intro ks l _
      cases ks with
      | nil => exact .nil
      | cons k ks => simp at l
    | cons u us ih =>
      intro ks l g
      cases ks with
      | nil => simp at l
      | cons k ks => exact .cons (g 0 u k rfl rfl) (ih (by simpa using l) fun j v k h1 h2 => g (j + 1) v k (by simpa using h1) (by simpa using h2))
  have r1 : Vals (ks.map V.str) acc.toList := tx la fun j v y e1 e2 => by
    obtain ⟨k, x, g1, g2⟩ := got.2 j v (by rw [← Array.getElem?_toList]; exact e1)
    have e3 : (vs.map (·.1))[j]? = some k := by rw [List.getElem?_map, g1]; rfl
    rw [kk, List.getElem?_map, e2] at e3
    have e5 : Sum.inr y = k := Option.some.inj e3
    subst e5
    obtain ⟨t, ev⟩ := Value.isStrOf_shape (x := y) (v := v) g2
    exact ⟨t, ev⟩
  have I1 : Inv X pins σ H { s with heap := h1, toks := tk } := I.kept keep
  have ea := each_str r1
  have lz : acc.toList.length ≤ sizeLine := by rw [la, ← len]; exact fits
  refine wpAny_bind (wpAny_newList ?_ lz)
  have hoL : (h1.push (seqObj "list" acc.toList.toArray 0)).get? h1.objs.size = some (seqObj "list" acc.toList.toArray 0) := Heap.get?_push_size _ rfl
  show wpAny _ _ _ _ _ { s with heap := h1.push (seqObj "list" acc.toList.toArray 0), toks := tk }
  refine wpAny_bind (wpAny_holding (list_sort_data (s := { s with heap := h1.push (seqObj "list" acc.toList.toArray 0), toks := tk }) (enc := PyData.str) hoL ea (ea.mono fun v z r => ?_) (str_alike ks) (str_sortable ks) (by rw [← la]; exact lz) (fun z hz => ?_) fun out lo eo => ?_))
  · obtain ⟨t, rfl⟩ := r
    exact ⟨[], Reads.str .., fun h => nomatch h⟩
  · show X.A.units + 1 + 1 + 0 < cLine
    omega
  obtain ⟨c, at1⟩ := sortedHeap_at (vs := acc.toList) (out := out.toArray) hoL
  have sz : ((ks.mergeSort (dataLe false PyData.str)).map V.str).length ≤ sizeLine := by
    rw [List.length_map, List.length_mergeSort, ← len]
    exact fits
  refine wpAny_pure ⟨_, rfl, .ref h1.objs.size, upd H h1.objs.size (.lst ((ks.mergeSort (dataLe false PyData.str)).map V.str)), I1.laid (t' := tk) (fun b u e => ?_) (Nat.le_refl _) ⟨sz, out, c, vals_str eo, at1⟩, rfl, q _ _ (List.mergeSort_perm _ _) (merge_sorted ks) (I1.hok.fresh (Nat.le_refl _))⟩
  have hb := Heap.lt_size e
  rw [sortedHeap_old (Nat.ne_of_lt hb) (by rw [size_push']; exact Nat.lt_succ_of_lt hb)]
  exact Heap.get?_push_of_some _ e
/-- sorted(xs), xs a list of texts -/
def rSortSk (K : PySem.W.Frag) : List V → Hp → VK → Prop := fun vs H Q => ∃ (a : Addr) (xs : List Str), vs = [V.ref a] ∧ SqL K H a (xs.map V.str) ∧ xs.length < 1000 ∧ ∀ (ys : List Str) (p : Addr), ys.Perm xs → sortedS ys = true → H p = none → Q (.ref p) (upd H p (.lst (ys.map V.str)))
theorem cr_sortSk (hu : X.A.units + 64 < cLine) : CallR X (.builtin "sorted") (rSortSk X.K) := by
  intro pins s σ H vs us Q I r h
  obtain ⟨a, xs, rfl, hs, few, q⟩ := h
  obtain ⟨its, rv, hl, hz⟩ := I.list hs
  rw [Vals.ref1 r]
  have ea := each_str rv
  refine sorted_data (enc := PyData.str) hl.isList ea (ea.mono fun v z r => ?_) (str_alike xs) (str_sortable xs) (by rw [List.length_map] at hz; exact hz) (fun z hz => ?_) fun out ho eo => ?_
  · obtain ⟨t, rfl⟩ := r
    exact ⟨[], Reads.str ..⟩
  · show X.A.units + 2 + 0 < cLine
    omega
  obtain ⟨ep, at1⟩ := sortedAll_at s.heap its out.toArray
  refine ⟨.ref _, upd H (s.heap.objs.size + 1) (.lst ((xs.mergeSort (dataLe false PyData.str)).map V.str)), I.laid (t' := s.toks) (fun _ _ => sortedAll_old) (Nat.le_succ _) ⟨?_, out, ep, vals_str eo, at1⟩, rfl, q _ _ (List.mergeSort_perm _ _) (merge_sorted xs) (I.hok.fresh (Nat.le_succ _))⟩
  rw [List.length_map, List.length_mergeSort]
  rw [List.length_map] at hz
  exact hz
end
end SX

namespace My
open PySem PySem.Spec PyProof.Rows L2 GX GxR
abbrev s_scKRows : Stmt := topS 48
abbrev n_scKRows : List Str := ["_law_m", "_law_key"]
theorem scKRows : FnScope n_scKRows ["_law_m"] (defScope s_scKRows) := ⟨rfl, rfl, rfl, by decide +kernel, rfl, by decide +kernel, by decide +kernel⟩
theorem Ents.keys {H : Hp} : ∀ {rows : List (Str × V)} {es : List Ent}, Ents H rows es → rows.map (·.1) = es.map (·.key)
  | _, _, .nil => rfl
  | _, _, .cons e _ h => by rw [List.map_cons, List.map_cons, h.keys, e]
def spKRows : Sp := fun vs H Q _ => ∃ (m pr rd : Addr) (ns : List Int) (top wide : Int) (rows : List (Str × V)) (es : List Ent), vs = [.ref m] ∧ MAt H m pr rd ns top wide rows ∧ Ents H rows es ∧ es.length < 110 ∧ (es.map (·.key)).Nodup ∧
  ∀ p H' as ss, Same H H' → H p = none → H' p = some (.lst (as.map V.ref)) → Paired (BwAt H') as ss → InKeys (es.map bwOf) ss → Q (.ref p) H'
section
variable {P : Program} {w : World} {K : PySem.W.Frag} {mg : Str → Option Value} {base : Heap}
theorem ok_krows {f : Addr} {fd : FuncData} {k : Nat} (F : Fun K "_law_rows_due" "_law_rows_due" s_scKRows f fd) (mSorted : mg "sorted" = none) : FnOk P w K mg base CX0 (k + 1) f fd ["_law_m"] spKRows := by
  refine F.ok scKRows (fun vs H Q E h => ?_) (fun cdv A outer s H vs Q E hr h => ?_)
  · obtain ⟨m, pr, rd, ns, top, wide, rows, es, rfl, _⟩ := h
    rfl
  · obtain ⟨m, pr, rd, ns, top, wide, rows, es, rfl, M, hE, hl, nd, q⟩ := h
    refine ⟨_, (pss_one (ps_ret (pe_lc (own := [("_law_key", 1)]) (g := (gName 1)) (tt := tYes) rfl scKRows.nd (pi_list (pe_callB (SX.cr_sortDk rfl hr.units) (by rfl) mSorted (by decide +kernel) (pa_cons (pe_dget (hu_of hr) (pv 0) pe_str (fun _ _ => rfl)) pa_nil))) (blkOk_by (own := [("_law_key", 1)]) (N := n_scKRows) (sc := defScope s_scKRows) (by decide +kernel)) (fun _ _ _ _ _ => (pg_name (i := 1) scKRows.nd rfl (.inl rfl))) (fun _ _ _ _ _ => pts_nil) (fun _ _ _ _ _ => (pe_op (r := rCatA K) op_catA (pe_tup (pa_cons (pv 1) pa_nil)) (pe_dget (hu_of hr) (pe_dget (hu_of hr) (pv 0) pe_str (fun _ _ => rfl)) (pv 1) (fun _ _ => rfl))))))), ?_⟩
    have ky : (rows.map fun r => ((Sum.inr r.1 : Key), r.2)).map (·.1) = (es.map (·.key)).map Sum.inr := by
      rw [← hE.keys, List.map_map, List.map_map]
      rfl
    refine ⟨_, rfl, m, .ref rd, rfl, DGet.k (k := .inr "rows") M.dict, rd, _, es.map (·.key), rfl, Rd.of M.rows, ky, by rw [List.length_map]; omega, fun ys p pm so np => ?_⟩
    have s1 : Same H (upd H p (.lst (ys.map V.str))) := same_upd np
    have e1 : upd H p (.lst (ys.map V.str)) p = some (.lst (ys.map V.str)) := upd_same
    generalize upd H p (.lst (ys.map V.str)) = H1 at s1 e1 ⊢
    have ly : ys.length = es.length := by rw [pm.length_eq, List.length_map]
    refine ⟨p, rfl, ⟨_, SqL.of e1⟩, fun D nD => ?_⟩
    refine lc_list (K := K) (a := p) (xs := ys.map V.str) (fun i H' => Same H1 H' ∧ ∃ (as : List Addr) (ss : List Bw), H' D = some (.lst (as.map V.ref)) ∧ Paired (BwAt H') as ss ∧ ss.map (·.key) = ys.take i ∧ ∀ x ∈ ss, x ∈ es.map bwOf)
      ⟨same_upd nD, [], [], upd_same, .nil, rfl, fun _ h => (nomatch h)⟩ (fun i H' _ p => SqL.of (p.1 _ _ e1)) (fun i x H2 hx p => ?_) (fun H2 p => ?_)
    · obtain ⟨p1, as, ss, p2, p3, p4, p5⟩ := p
      obtain ⟨z, hz, rfl⟩ := map_get hx
      have hi : i < ys.length := (List.getElem?_eq_some_iff.mp hz).1
      have s2 := s1.trans p1
      have M2 := M.same s2
      obtain ⟨j, hj⟩ := List.mem_iff_getElem?.mp (pm.mem_iff.mp (List.mem_of_getElem? hz))
      rw [List.getElem?_map] at hj
      cases hes : es[j]? with
      | none => rw [hes] at hj; cases hj
      | some r =>
        rw [hes] at hj
        have rz : r.key = z := Option.some.inj hj
        have hjr : j < rows.length := by rw [hE.len]; exact (List.getElem?_eq_some_iff.mp hes).1
        obtain ⟨r', hr', ek, tt, la, ev, ht, hla⟩ := hE.get j rows[j].1 rows[j].2 (List.getElem?_eq_getElem hjr)
        rw [hes] at hr'
        cases hr'
        have vv : valV (rows.map fun r => ((Sum.inr r.1 : Key), r.2)) (Sum.inr z) = some (.ref tt) := by
          refine valV_get (i := j) (by rw [ky]; exact keys_nd nd) ?_
          rw [List.getElem?_map, List.getElem?_eq_getElem hjr, ← rz, ← ek, ← ev]
          rfl
        have l4 := congrArg List.length p4
        have l3 := p3.length
        rw [List.length_map, List.length_take] at l4
        refine ⟨rfl, ?_⟩
        refine ⟨_, rfl, by show 1 ≤ sizeLine; decide, fun T1 nT1 => ?_⟩
        have s3 : Same H2 (upd H2 T1 (.tup [.str z])) := same_upd nT1
        have eT : upd H2 T1 (.tup [.str z]) T1 = some (.tup [.str z]) := upd_same
        generalize upd H2 T1 (.tup [.str z]) = H3 at s3 eT ⊢
        have M3 := M2.same s3
        have ht3 := s3 _ _ (s2 _ _ ht)
        have hla3 := s3 _ _ (s2 _ _ hla)
        refine ⟨_, rfl, m, .ref rd, rfl, DGet.k (k := .inr "rows") M3.dict, _, rfl, rd, .ref tt, rfl, dgetR (Rd.of M3.rows) vv, ?_⟩
        refine ⟨T1, tt, _, _, rfl, rfl, SqT.of eT, SqT.of ht3, by show 1 + 3 ≤ sizeLine; decide, (fun e => nomatch e), (fun _ e => nomatch e), fun _ _ T nT => ?_⟩
        have kA : KTu H3 (upd H3 T (.tup ([V.str z] ++ [.int r.bg, .int r.nd, .ref la]))) := kt_new nT
        have eD3 := same_upd (o := .tup ([V.str z] ++ [.int r.bg, .int r.nd, .ref la])) nT _ _ (s3 _ _ p2)
        have kB : KTu (upd H3 T (.tup ([V.str z] ++ [.int r.bg, .int r.nd, .ref la]))) (upd (upd H3 T (.tup ([V.str z] ++ [.int r.bg, .int r.nd, .ref la]))) D (.lst (as.map V.ref ++ [.ref T]))) := kt_put eD3 (fun xs z => by cases z)
        refine ⟨_, eD3, ?_, same_put ((p1.trans s3).trans (same_upd nT)) nD, as ++ [T], ss ++ [bwOf r], ?_, Paired.snoc (p3.mono fun _ _ x => x.kt ((Same.kt s3).trans (kA.trans kB))) ⟨la, ?_, kB _ _ (kA _ _ hla3)⟩, ?_, fun x hx => ?_⟩
        · rw [List.length_map]
          exact small63 (by omega)
        · rw [upd_same, List.map_append]
          rfl
        · have := kB _ _ (upd_same (H := H3) (a := T) (o := .tup ([V.str z] ++ [.int r.bg, .int r.nd, .ref la])))
          rw [← rz] at this
          rw [← rz]
          exact this
        · rw [List.map_append, p4, List.take_add_one, hz, ← rz]
          rfl
        · rcases List.mem_append.mp hx with z | z
          · exact p5 x z
          · rw [List.mem_singleton.mp z]
            exact List.mem_map.mpr ⟨r, List.mem_of_getElem? hes, rfl⟩
    · obtain ⟨p1, as, ss, p2, p3, p4, p5⟩ := p
      rw [List.length_map, List.take_length] at p4
      have em : (es.map bwOf).map (·.key) = es.map (·.key) := by
        rw [List.map_map]
        rfl
      exact q D H2 as ss (s1.trans p1) (s1.free nD) p2 p3 ⟨perm_keys (by rw [em]; exact nd) (by rw [em]; exact pm) p4 p5, by rw [p4]; exact so⟩
end
end My

namespace My
open PySem PySem.W PySem.Spec PyProof.Rows L2 GX GxR
/-! entries in the order of their keys: there is one such list -/
theorem rising_pw : ∀ (l : List Str) (p : Str), risingS p l = true → (p :: l).Pairwise (fun a b => a.cps.toList ≤ b.cps.toList)
  | [], p, _ => List.pairwise_singleton _ _
  | x :: r, p, h => by
    have h' : (!ltCps x.cps.toList p.cps.toList && risingS x r) = true := h
    rw [Bool.and_eq_true] at h'
    have ih := rising_pw r x h'.2
    have px : p.cps.toList ≤ x.cps.toList := by
      have := h'.1
      rw [ltCps_eq] at this
      refine List.not_lt.mp fun z => ?_
      rw [decide_eq_true z] at this
      cases this
    refine List.pairwise_cons.mpr ⟨fun y hy => ?_, ih⟩
    rcases List.mem_cons.mp hy with z | z
    · rw [z]
      exact px
    · exact List.le_trans px ((List.pairwise_cons.mp ih).1 y z)
theorem sorted_pw {l : List Str} (h : sortedS l = true) : l.Pairwise (fun a b => a.cps.toList ≤ b.cps.toList) := by
  cases l with
  | nil => exact .nil
  | cons x r => exact rising_pw r x h
theorem str_ext {a b : Str} (h : a.cps.toList = b.cps.toList) : a = b := by
  cases a
  cases b
  simp only at h
  rw [Array.toList_inj.mp h]
theorem inkeys_uniq {rs rs' ss ss' : List Bw} (nd : (rs.map (·.key)).Nodup) (p : rs'.Perm rs) (h : InKeys rs ss) (h' : InKeys rs' ss') : ss = ss' := by
  have pm : ss.Perm ss' := h.1.trans (p.symm.trans h'.1.symm)
  have so : ∀ {xs : List Bw}, sortedS (xs.map (·.key)) = true → xs.Pairwise (fun a b => (fun a b : Bw => decide (a.key.cps.toList ≤ b.key.cps.toList)) a b = true) := fun {xs} hs => by
    have := sorted_pw hs
    rw [List.pairwise_map] at this
    exact this.imp fun z => decide_eq_true z
  refine uniq_sorted (le := fun a b : Bw => decide (a.key.cps.toList ≤ b.key.cps.toList)) pm (so h.2) (so h'.2) fun a ha b hb q1 q2 => ?_
  have e : a.key = b.key := str_ext (List.le_antisymm (of_decide_eq_true q1) (of_decide_eq_true q2))
  exact nodup_inj nd a (h.1.mem_iff.mp ha) b (h.1.mem_iff.mp hb) e
end My

namespace My
open PySem PySem.W PySem.Spec PyProof.Rows L2 GX GxR
/-! what deeds on a book come to -/
/-- ware j of what is borne at t -/
def col (j : Nat) (rs : List Bw) (t : Int) : Int := ((rs.filter (liveAt t)).map fun x => x.am.getD j 0).sum
theorem net_col {w : Nat} {rs : List Bw} {t : Int} {j : Nat} (h : j < w) : (netB w rs t).getD j 0 = col j rs t := by
  unfold netB col
  rw [List.getD_eq_getElem?_getD, List.getElem?_map, List.getElem?_range h]
  rfl
theorem col_snoc {j : Nat} {rs : List Bw} {x : Bw} {t : Int} : col j (rs ++ [x]) t = col j rs t + (if liveAt t x = true then x.am.getD j 0 else 0) := by
  unfold col
  rw [List.filter_append, List.map_append, List.sum_append, List.filter_cons]
  split
  · simp
  · simp
theorem col_cons {j : Nat} {rs : List Bw} {x : Bw} {t : Int} : col j (x :: rs) t = (if liveAt t x = true then x.am.getD j 0 else 0) + col j rs t := by
  unfold col
  rw [List.filter_cons]
  split
  · simp
  · simp
theorem col_perm {j : Nat} {rs ss : List Bw} (p : ss.Perm rs) (t : Int) : col j ss t = col j rs t := perm_sum ((p.filter _).map _)
theorem getD_nn {ns : List Int} (h : ∀ n ∈ ns, 0 ≤ n) (j : Nat) : 0 ≤ ns.getD j 0 := by
  rw [List.getD_eq_getElem?_getD]
  cases e : ns[j]? with
  | none => exact Int.le_refl 0
  | some n => exact h n (List.mem_of_getElem? e)
def NN (rs : List Bw) : Prop := ∀ x ∈ rs, ∀ n ∈ x.am, (0 : Int) ≤ n
theorem col_filter {j : Nat} {t : Int} {p : Bw → Bool} : ∀ {rs : List Bw}, NN rs → col j (rs.filter p) t ≤ col j rs t ∧ 0 ≤ col j rs t
  | [], _ => ⟨Int.le_refl _, Int.le_refl _⟩
  | x :: rs, h => by
    obtain ⟨h1, h2⟩ := col_filter (j := j) (t := t) (p := p) (rs := rs) fun y hy => h y (List.mem_cons_of_mem _ hy)
    have h3 := getD_nn (h x List.mem_cons_self) j
    rw [List.filter_cons, col_cons]
    split
    · rw [col_cons]
      split <;> omega
    · split <;> omega
theorem col_nn {j : Nat} {t : Int} {rs : List Bw} (h : NN rs) : 0 ≤ col j rs t := (col_filter (p := fun _ => true) h).2
/-- no edge behind u, up to t: the same is borne -/
theorem col_const {j : Nat} {u t : Int} {rs : List Bw} (le : u ≤ t) (h : ∀ x ∈ rs, (x.b ≤ t → x.b ≤ u) ∧ (x.e ≤ t → x.e ≤ u)) : col j rs t = col j rs u := by
  unfold col
  congr 2
  refine List.filter_congr fun x hx => ?_
  obtain ⟨h1, h2⟩ := h x hx
  unfold liveAt
  refine decide_eq_decide.mpr ⟨fun ⟨a, b⟩ => ⟨h1 a, by omega⟩, fun ⟨a, b⟩ => ⟨by omega, ?_⟩⟩
  by_cases z : t < x.e
  · exact z
  · have := h2 (by omega)
    omega
theorem fit_iff : ∀ {xs ys : List Int}, xs.length = ys.length → (fitB xs ys = true ↔ ∀ j, j < ys.length → xs.getD j 0 ≤ ys.getD j 0)
  | [], [], _ => ⟨fun _ j h => absurd h (Nat.not_lt_zero _), fun _ => rfl⟩
  | x :: xs, y :: ys, h => by
    have ih := fit_iff (xs := xs) (ys := ys) (by simpa using h)
    have e : fitB (x :: xs) (y :: ys) = (decide (x ≤ y) && fitB xs ys) := rfl
    rw [e, Bool.and_eq_true, decide_eq_true_eq, ih]
    constructor
    · rintro ⟨h1, h2⟩ j hj
      cases j with
      | zero => exact h1
      | succ j => exact h2 j (by simpa using hj)
    · intro h1
      exact ⟨h1 0 (by simp), fun j hj => h1 (j + 1) (by simpa using hj)⟩
/-- the room holds what is borne at t -/
def Fits (room : List Int) (rs : List Bw) (t : Int) : Prop := ∀ j, j < room.length → col j rs t ≤ room.getD j 0
theorem ovr_fits {room : List Int} {rs : List Bw} {t : Int} : ovr room.length rs room t = false ↔ Fits room rs t := by
  unfold ovr Fits
  rw [Bool.not_eq_false', fit_iff (netB_len _ _ _)]
  exact forall_congr' fun j => forall_congr' fun h => by rw [net_col h]
/-- so much more at t is too much -/
def moreAt (room : List Int) (rs : List Bw) (am : List Int) (t : Int) : Bool := !fitB (List.zipWith (· + ·) (netB room.length rs t) am) room
theorem more_fits {room : List Int} {rs : List Bw} {am : List Int} {t : Int} (hl : am.length = room.length) : moreAt room rs am t = false ↔ ∀ j, j < room.length → col j rs t + am.getD j 0 ≤ room.getD j 0 := by
  unfold moreAt
  have len : (List.zipWith (· + ·) (netB room.length rs t) am).length = room.length := by rw [List.length_zipWith, netB_len, hl, Nat.min_self]
  rw [Bool.not_eq_false', fit_iff len]
  refine forall_congr' fun j => forall_congr' fun h => ?_
  have e : (List.zipWith (· + ·) (netB room.length rs t) am).getD j 0 = (netB room.length rs t).getD j 0 + am.getD j 0 := by
    have h1 : j < (netB room.length rs t).length := by rw [netB_len]; exact h
    have h2 : j < am.length := by omega
    rw [List.getD_eq_getElem?_getD, List.getElem?_zipWith, List.getElem?_eq_getElem h1, List.getElem?_eq_getElem h2, List.getD_eq_getElem?_getD, List.getD_eq_getElem?_getD, List.getElem?_eq_getElem h1, List.getElem?_eq_getElem h2]
    rfl
  rw [e, net_col h]
/-- the first time of [b, e) at which so much more is too much -/
def IsFirst (room : List Int) (rs : List Bw) (am : List Int) (b e : Int) : Option Int → Prop
  | none => ∀ t, b ≤ t → t < e → moreAt room rs am t = false
  | some t => b ≤ t ∧ t < e ∧ moreAt room rs am t = true ∧ ∀ u, b ≤ u → u < t → moreAt room rs am u = false
theorem isFirst_uniq {room : List Int} {rs : List Bw} {am : List Int} {b e : Int} : ∀ {f g : Option Int}, IsFirst room rs am b e f → IsFirst room rs am b e g → f = g
  | none, none, _, _ => rfl
  | none, some t, h, ⟨h1, h2, h3, _⟩ => by rw [h t h1 h2] at h3; cases h3
  | some t, none, ⟨h1, h2, h3, _⟩, h => by rw [h t h1 h2] at h3; cases h3
  | some t, some u, ⟨h1, h2, h3, h4⟩, ⟨g1, g2, g3, g4⟩ => by
    have a : ¬ t < u := fun z => by rw [g4 t h1 z] at h3; cases h3
    have b : ¬ u < t := fun z => by rw [h4 u g1 z] at g3; cases g3
    rw [show t = u by omega]
theorem greatest : ∀ {L : List Int} {t : Int}, (∃ v ∈ L, v ≤ t) → ∃ u ∈ L, u ≤ t ∧ ∀ v ∈ L, v ≤ t → v ≤ u
  | [], _, ⟨_, h, _⟩ => nomatch h
  | x :: L, t, ⟨v, hv, hle⟩ => by
    by_cases ex : ∃ v ∈ L, v ≤ t
    · obtain ⟨u, hu, h1, h2⟩ := greatest ex
      by_cases c : x ≤ t ∧ u < x
      · refine ⟨x, List.mem_cons_self, c.1, fun y hy hle => ?_⟩
        rcases List.mem_cons.mp hy with z | z
        · omega
        · have := h2 y z hle
          omega
      · refine ⟨u, List.mem_cons_of_mem _ hu, h1, fun y hy hle => ?_⟩
        rcases List.mem_cons.mp hy with z | z
        · omega
        · exact h2 y z hle
    · have e : v = x := by
        rcases List.mem_cons.mp hv with z | z
        · exact z
        · exact absurd ⟨v, z, hle⟩ ex
      refine ⟨x, List.mem_cons_self, by omega, fun y hy hle => ?_⟩
      rcases List.mem_cons.mp hy with z | z
      · omega
      · exact absurd ⟨y, z, hle⟩ ex
theorem find_first {p : Int → Bool} : ∀ {L : List Int} {t : Int}, L.Pairwise (· ≤ ·) → L.find? p = some t → ∀ v ∈ L, v < t → p v = false
  | x :: L, t, so, h, v, hv, lt => by
    rw [List.pairwise_cons] at so
    cases e : p x with
    | true =>
      rw [List.find?_cons_of_pos e] at h
      cases h
      rcases List.mem_cons.mp hv with z | z
      · omega
      · have := so.1 v z
        omega
    | false =>
      rw [List.find?_cons_of_neg (by rw [e]; exact Bool.false_ne_true)] at h
      rcases List.mem_cons.mp hv with z | z
      · rw [z]
        exact e
      · exact find_first so.2 h v z lt
theorem scan {p : Int → Bool} {L : List Int} {lo e : Int} (so : L.Pairwise (· ≤ ·)) (same : ∀ u t, u ∈ L → u ≤ t → lo ≤ t → t < e → (∀ v ∈ L, v ≤ t → v ≤ u) → p t = p u) (low : ∃ v ∈ L, v ≤ lo) :
    match L.find? p with
    | none => ∀ t, lo ≤ t → t < e → p t = false
    | some t => ∀ u, lo ≤ u → u < t → u < e → p u = false := by
  have get : ∀ t, lo ≤ t → t < e → ∃ u ∈ L, u ≤ t ∧ p t = p u := fun t h1 h2 => by
    obtain ⟨v, hv, hle⟩ := low
    obtain ⟨u, hu, g1, g2⟩ := greatest (L := L) (t := t) ⟨v, hv, by omega⟩
    exact ⟨u, hu, g1, same u t hu g1 h1 h2 g2⟩
  cases h : L.find? p with
  | none =>
    intro t h1 h2
    obtain ⟨u, hu, g1, g2⟩ := get t h1 h2
    rw [g2]
    have := List.find?_eq_none.mp h u hu
    simpa using this
  | some t =>
    intro u h1 h2 h3
    obtain ⟨v, hv, g1, g2⟩ := get u h1 h3
    rw [g2]
    exact find_first so h v hv (by omega)
theorem more_same {room : List Int} {rs : List Bw} {am : List Int} {u t : Int} (hl : am.length = room.length) (h : ∀ j, col j rs t = col j rs u) : moreAt room rs am t = moreAt room rs am u := by
  rw [Bool.eq_iff_iff, ← Bool.not_eq_false, ← Bool.not_eq_false, more_fits hl, more_fits hl]
  simp only [h]
/-- as the law looks for it -/
theorem first_law {room : List Int} {rs : List Bw} {am : List Int} {b e : Int} {L : List Int} (hl : am.length = room.length) (lt : b < e) (so : L.Pairwise (· ≤ ·)) (hb : b ∈ L) (ins : ∀ v ∈ L, b ≤ v ∧ v < e) (all : ∀ x ∈ rs, (b < x.b → x.b < e → x.b ∈ L) ∧ (b < x.e → x.e < e → x.e ∈ L)) :
    IsFirst room rs am b e (L.find? (moreAt room rs am)) := by
  have sc := scan (p := moreAt room rs am) (lo := b) (e := e) so (fun u t hu h1 h2 h3 h4 => more_same hl fun j => col_const h1 fun x hx => by
    obtain ⟨a1, a2⟩ := all x hx
    have bu := ins u hu
    constructor
    · intro z
      by_cases c : b < x.b
      · exact h4 _ (a1 c (by omega)) z
      · omega
    · intro z
      by_cases c : b < x.e
      · exact h4 _ (a2 c (by omega)) z
      · omega) ⟨b, hb, Int.le_refl _⟩
  cases h : L.find? (moreAt room rs am) with
  | none =>
    rw [h] at sc
    exact sc
  | some t =>
    rw [h] at sc
    have m := ins t (List.mem_of_find?_eq_some h)
    exact ⟨m.1, m.2, List.find?_some h, fun u h1 h2 => sc u h1 h2 (by omega)⟩
/-- as the book looks for it: ss the others and the new one -/
theorem first_book {room : List Int} {rs ss : List Bw} {am : List Int} {lo e : Int} {ks : List Int} (hl : am.length = room.length) (sr : Srt ss ks) (inn : ∀ t, lo ≤ t → t < e → ∀ j, col j ss t = col j rs t + am.getD j 0) (out : ∀ t, ¬ (lo ≤ t ∧ t < e) → Fits room ss t) (low : ∃ v ∈ ks, v ≤ lo) :
    IsFirst room rs am lo e (ks.find? (ovr room.length ss room)) := by
  have eq : ∀ t, lo ≤ t → t < e → moreAt room rs am t = ovr room.length ss room t := fun t h1 h2 => by
    rw [Bool.eq_iff_iff, ← Bool.not_eq_false, ← Bool.not_eq_false, more_fits hl, ovr_fits]
    unfold Fits
    simp only [inn t h1 h2]
  have ovc : ∀ u t, (∀ j, col j ss t = col j ss u) → ovr room.length ss room t = ovr room.length ss room u := fun u t h => by
    rw [Bool.eq_iff_iff, ← Bool.not_eq_false, ← Bool.not_eq_false, ovr_fits, ovr_fits]
    unfold Fits
    simp only [h]
  have sc := scan (p := ovr room.length ss room) (lo := lo) (e := e) (sr.1.imp fun h => Int.le_of_lt h) (fun u t hu h1 h2 h3 h4 => ovc u t fun j => col_const h1 fun x hx =>
    ⟨fun z => h4 _ ((sr.2 _).mpr ⟨x, hx, .inl rfl⟩) z, fun z => h4 _ ((sr.2 _).mpr ⟨x, hx, .inr rfl⟩) z⟩) low
  cases h : ks.find? (ovr room.length ss room) with
  | none =>
    rw [h] at sc
    exact fun t h1 h2 => by rw [eq t h1 h2]; exact sc t h1 h2
  | some t =>
    rw [h] at sc
    have m := List.find?_some h
    have dm : lo ≤ t ∧ t < e := by
      by_cases c : lo ≤ t ∧ t < e
      · exact c
      · rw [ovr_fits.mpr (out t c)] at m
        cases m
    exact ⟨dm.1, dm.2, by rw [eq t dm.1 dm.2]; exact m, fun u h1 h2 => by rw [eq u h1 (by omega)]; exact sc u h1 h2 (by omega)⟩
end My

namespace My
open PySem PySem.W PySem.Spec PyProof.Rows L2 GX GxR
/-! deeds -/
inductive Deed where
  | put (x : Bw)
  | cut (z : Str) (t : Int)
  | stretch (z : Str) (t : Int)
  | drop (z : Str)
  | past (t : Int)
inductive Out where
  | no
  | time (t : Int)
  | keys (zs : List Str)
abbrev keysB (rs : List Bw) : List Str := rs.map (·.key)
def KeptR (rs : List Bw) (x : Bw) : Option Int → Str → Out → List Bw → Prop
  | some t, w, o, rs' => w = "TooMuch" ∧ o = .time t ∧ rs' = rs
  | none, w, o, rs' => w = "told" ∧ o = .no ∧ rs' = putR rs x
/-- texts in order -/
def Pw (zs : List Str) : Prop := zs.Pairwise fun a b => a.cps.toList ≤ b.cps.toList
theorem pw_uniq {xs ys : List Str} (p : xs.Perm ys) (hx : Pw xs) (hy : Pw ys) : xs = ys :=
  uniq_sorted (le := fun a b : Str => decide (a.cps.toList ≤ b.cps.toList)) p (hx.imp fun z => decide_eq_true z) (hy.imp fun z => decide_eq_true z) fun a _ b _ q1 q2 => str_ext (List.le_antisymm (of_decide_eq_true q1) (of_decide_eq_true q2))
/-- what a deed comes to: a word, what is told, the entries behind it -/
def DueR (room : List Int) (rs : List Bw) : Deed → Str → Out → List Bw → Prop
  | .put x, w, o, rs' => (x.key ∈ keysB rs ∧ w = "Taken" ∧ o = .no ∧ rs' = rs) ∨ (x.key ∉ keysB rs ∧ ∃ f, IsFirst room rs x.am x.b x.e f ∧ KeptR rs x f w o rs')
  | .cut z t, w, o, rs' => (z ∉ keysB rs ∧ w = "NoKey" ∧ o = .no ∧ rs' = rs) ∨ ∃ x ∈ rs, x.key = z ∧ w = "told" ∧ o = .no ∧ rs' = (if t ≤ x.b then rs.filter fun y => decide (y.key ≠ z) else if t < x.e then putR rs ⟨x.key, x.b, t, x.am⟩ else rs)
  | .stretch z e, w, o, rs' => (z ∉ keysB rs ∧ w = "NoKey" ∧ o = .no ∧ rs' = rs) ∨ ∃ x ∈ rs, x.key = z ∧ ((x.e < e ∧ ∃ f, IsFirst room rs x.am x.e e f ∧ KeptR rs ⟨x.key, x.b, e, x.am⟩ f w o rs') ∨ (¬ x.e < e ∧ w = "told" ∧ o = .no ∧ rs' = rs))
  | .drop z, w, o, rs' => (z ∉ keysB rs ∧ w = "NoKey" ∧ o = .no ∧ rs' = rs) ∨ (z ∈ keysB rs ∧ w = "told" ∧ o = .no ∧ rs' = rs.filter fun y => decide (y.key ≠ z))
  | .past t, w, o, rs' => ∃ zs, zs.Perm ((rs.filter fun x => decide (x.e ≤ t)).map (·.key)) ∧ Pw zs ∧ w = "told" ∧ o = .keys zs ∧ rs' = rs.filter (lateB t)
theorem keptR_uniq {rs : List Bw} {x : Bw} : ∀ {f : Option Int} {w w' : Str} {o o' : Out} {r r' : List Bw}, KeptR rs x f w o r → KeptR rs x f w' o' r' → w = w' ∧ o = o' ∧ r = r'
  | some _, _, _, _, _, _, _, ⟨h1, h2, h3⟩, ⟨g1, g2, g3⟩ => ⟨h1.trans g1.symm, h2.trans g2.symm, h3.trans g3.symm⟩
  | none, _, _, _, _, _, _, ⟨h1, h2, h3⟩, ⟨g1, g2, g3⟩ => ⟨h1.trans g1.symm, h2.trans g2.symm, h3.trans g3.symm⟩
theorem key_mem {rs : List Bw} {x : Bw} (h : x ∈ rs) : x.key ∈ keysB rs := List.mem_map.mpr ⟨x, h, rfl⟩
theorem dueR_uniq {room : List Int} {rs : List Bw} (nd : (rs.map (·.key)).Nodup) {d : Deed} {w w' : Str} {o o' : Out} {r r' : List Bw} (h : DueR room rs d w o r) (g : DueR room rs d w' o' r') : w = w' ∧ o = o' ∧ r = r' := by
  cases d with
  | put x =>
    rcases h with ⟨a, h1, h2, h3⟩ | ⟨a, f, hf, hk⟩ <;> rcases g with ⟨b, g1, g2, g3⟩ | ⟨b, f', gf, gk⟩
    · exact ⟨h1.trans g1.symm, h2.trans g2.symm, h3.trans g3.symm⟩
    · exact absurd a b
    · exact absurd b a
    · rw [isFirst_uniq hf gf] at hk
      exact keptR_uniq hk gk
  | cut z t =>
    rcases h with ⟨a, h1, h2, h3⟩ | ⟨x, hx, ex, h1, h2, h3⟩ <;> rcases g with ⟨b, g1, g2, g3⟩ | ⟨y, hy, ey, g1, g2, g3⟩
    · exact ⟨h1.trans g1.symm, h2.trans g2.symm, h3.trans g3.symm⟩
    · exact absurd (ey ▸ key_mem hy) a
    · exact absurd (ex ▸ key_mem hx) b
    · have e := nodup_inj nd x hx y hy (ex.trans ey.symm)
      subst e
      exact ⟨h1.trans g1.symm, h2.trans g2.symm, h3.trans g3.symm⟩
  | stretch z t =>
    rcases h with ⟨a, h1, h2, h3⟩ | ⟨x, hx, ex, h⟩ <;> rcases g with ⟨b, g1, g2, g3⟩ | ⟨y, hy, ey, g⟩
    · exact ⟨h1.trans g1.symm, h2.trans g2.symm, h3.trans g3.symm⟩
    · exact absurd (ey ▸ key_mem hy) a
    · exact absurd (ex ▸ key_mem hx) b
    · have e := nodup_inj nd x hx y hy (ex.trans ey.symm)
      subst e
      rcases h with ⟨a, f, hf, hk⟩ | ⟨a, h1, h2, h3⟩ <;> rcases g with ⟨b, f', gf, gk⟩ | ⟨b, g1, g2, g3⟩
      · rw [isFirst_uniq hf gf] at hk
        exact keptR_uniq hk gk
      · exact absurd a b
      · exact absurd b a
      · exact ⟨h1.trans g1.symm, h2.trans g2.symm, h3.trans g3.symm⟩
  | drop z =>
    rcases h with ⟨a, h1, h2, h3⟩ | ⟨a, h1, h2, h3⟩ <;> rcases g with ⟨b, g1, g2, g3⟩ | ⟨b, g1, g2, g3⟩
    · exact ⟨h1.trans g1.symm, h2.trans g2.symm, h3.trans g3.symm⟩
    · exact absurd b a
    · exact absurd a b
    · exact ⟨h1.trans g1.symm, h2.trans g2.symm, h3.trans g3.symm⟩
  | past t =>
    obtain ⟨ss, p0, h0, h1, h2, h3⟩ := h
    obtain ⟨ss', p1, g0, g1, g2, g3⟩ := g
    rw [pw_uniq (p0.trans p1.symm) h0 g0] at h2
    exact ⟨h1.trans g1.symm, h2.trans g2.symm, h3.trans g3.symm⟩
/-- entries as they may stand: their keys of Z, in the room at all times -/
structure BGood (Z : List Str) (room : List Int) (rs : List Bw) : Prop where
  nd : (rs.map (·.key)).Nodup
  lt : ∀ x ∈ rs, x.b < x.e
  len : ∀ x ∈ rs, x.am.length = room.length
  nn : NN rs
  tm : ∀ x ∈ rs, 0 ≤ x.b ∧ x.e ≤ 2000000000
  fit : ∀ t, Fits room rs t
  key : ∀ x ∈ rs, x.key ∈ Z
def DeedOk (Z : List Str) (room : List Int) : Deed → Prop
  | .put x => x.b < x.e ∧ x.am.length = room.length ∧ (∀ n ∈ x.am, (0 : Int) ≤ n) ∧ 0 ≤ x.b ∧ x.e ≤ 2000000000 ∧ x.key ∈ Z
  | .cut z _ => z.length ≤ 100
  | .stretch z t => z.length ≤ 100 ∧ t ≤ 2000000000
  | .drop z => z.length ≤ 100
  | .past _ => True
theorem BGood.nil {Z : List Str} {room : List Int} (h : ∀ n ∈ room, 0 ≤ n) : BGood Z room [] := ⟨.nil, fun _ h => (nomatch h), fun _ h => (nomatch h), fun _ h => (nomatch h), fun _ h => (nomatch h), fun t j hj => getD_nn h j, fun _ h => (nomatch h)⟩
theorem BGood.filter {Z : List Str} {room : List Int} {rs : List Bw} (g : BGood Z room rs) (p : Bw → Bool) : BGood Z room (rs.filter p) := by
  have sub : (rs.filter p).Sublist rs := List.filter_sublist
  exact ⟨g.nd.sublist (sub.map _), fun x h => g.lt x (sub.subset h), fun x h => g.len x (sub.subset h), fun x h => g.nn x (sub.subset h), fun x h => g.tm x (sub.subset h), fun t j hj => Int.le_trans (col_filter g.nn).1 (g.fit t j hj), fun x h => g.key x (sub.subset h)⟩
theorem putR_new {rs : List Bw} {x : Bw} (h : x.key ∉ keysB rs) : putR rs x = rs ++ [x] := by
  unfold putR
  rw [if_neg h]
/-- an entry set anew: the others and it -/
theorem putR_perm {x y : Bw} (e : x.key = y.key) : ∀ {rs : List Bw}, (rs.map (·.key)).Nodup → y ∈ rs → (putR rs x).Perm (rs.filter (fun z => decide (z.key ≠ x.key)) ++ [x]) := by
  intro rs nd hy
  have hk : x.key ∈ rs.map (·.key) := e ▸ key_mem hy
  unfold putR
  rw [if_pos hk]
  clear hy
  induction rs with
  | nil => cases hk
  | cons a rs ih =>
    rw [List.map_cons, List.nodup_cons] at nd
    rw [List.map_cons, List.filter_cons]
    by_cases c : a.key = x.key
    · rw [if_pos c, if_neg (by rw [decide_eq_true_eq]; exact fun q => q c)]
      have no : x.key ∉ rs.map (·.key) := by rw [← c]; exact nd.1
      have e1 : rs.map (fun z => if z.key = x.key then x else z) = rs := by
        rw [List.map_congr_left (g := fun z => z) fun z hz => if_neg fun q => no (List.mem_map.mpr ⟨z, hz, q⟩)]
        exact List.map_id' _
      have e2 : rs.filter (fun z => decide (z.key ≠ x.key)) = rs := List.filter_eq_self.mpr fun z hz => decide_eq_true fun q => no (List.mem_map.mpr ⟨z, hz, q⟩)
      rw [e1, e2]
      exact (List.perm_append_singleton x rs).symm
    · rw [if_neg c, if_pos (decide_eq_true c)]
      refine List.Perm.cons a (ih nd.2 ?_)
      rw [List.map_cons] at hk
      rcases List.mem_cons.mp hk with z | z
      · exact absurd z.symm c
      · exact z
theorem self_perm {y : Bw} : ∀ {rs : List Bw}, (rs.map (·.key)).Nodup → y ∈ rs → rs.Perm (rs.filter (fun z => decide (z.key ≠ y.key)) ++ [y]) := by
  intro rs nd hy
  have h := putR_perm (x := y) (y := y) rfl nd hy
  have e : putR rs y = rs := by
    unfold putR
    rw [if_pos (key_mem hy)]
    rw [List.map_congr_left (g := fun z => z) fun z hz => ?_]
    · exact List.map_id' _
    · show (if z.key = y.key then y else z) = z
      split
      · rename_i q
        exact (nodup_inj nd z hz y hy q).symm
      · rfl
  rw [e] at h
  exact h
theorem putR_self {y : Bw} {rs : List Bw} (nd : (rs.map (·.key)).Nodup) (hy : y ∈ rs) : putR rs y = rs := by
  unfold putR
  rw [if_pos (key_mem hy)]
  rw [List.map_congr_left (g := fun z => z) fun z hz => ?_]
  · exact List.map_id' _
  · show (if z.key = y.key then y else z) = z
    split
    · rename_i q
      exact (nodup_inj nd z hz y hy q).symm
    · rfl
theorem BGood.put {Z : List Str} {room : List Int} {rs : List Bw} {x : Bw} (g : BGood Z room rs) (h1 : x.b < x.e) (h2 : x.am.length = room.length) (h3 : ∀ n ∈ x.am, (0 : Int) ≤ n) (h4 : 0 ≤ x.b ∧ x.e ≤ 2000000000) (h5 : x.key ∈ Z) (fit : ∀ t, Fits room (putR rs x) t) : BGood Z room (putR rs x) := by
  have mem : ∀ {P : Bw → Prop}, (∀ y ∈ rs, P y) → P x → ∀ y ∈ putR rs x, P y := fun {P} a b y hy => by
    rcases putR_mem hy with z | z
    · exact a y z
    · rw [z]
      exact b
  exact ⟨putR_nd g.nd, mem g.lt h1, mem g.len h2, mem g.nn h3, mem g.tm h4, fit, mem g.key h5⟩
theorem live_in {x : Bw} {t : Int} : liveAt t x = true ↔ x.b ≤ t ∧ t < x.e := by
  unfold liveAt
  exact decide_eq_true_iff
theorem live_out {x : Bw} {t : Int} (h : ¬ (x.b ≤ t ∧ t < x.e)) : liveAt t x = false := by
  unfold liveAt
  exact decide_eq_false h
/-- an entry put, or set anew to a later end -/
theorem fit_new {room : List Int} {rs : List Bw} {x : Bw} (hl : x.am.length = room.length) (fit : ∀ t, Fits room rs t) (hk : x.key ∉ keysB rs) (f : IsFirst room rs x.am x.b x.e none) : ∀ t, Fits room (putR rs x) t := fun t j hj => by
  rw [putR_new hk, col_snoc]
  split
  · rename_i c
    obtain ⟨c1, c2⟩ := live_in.mp c
    exact (more_fits hl).mp (f t c1 c2) j hj
  · have := fit t j hj
    omega
theorem fit_long {room : List Int} {rs : List Bw} {x : Bw} {e : Int} (hl : x.am.length = room.length) (nd : (rs.map (·.key)).Nodup) (hx : x ∈ rs) (lt : x.b < x.e) (hlt : x.e < e) (fit : ∀ t, Fits room rs t) (f : IsFirst room rs x.am x.e e none) : ∀ t, Fits room (putR rs ⟨x.key, x.b, e, x.am⟩) t := fun t j hj => by
  have p1 := putR_perm (x := ⟨x.key, x.b, e, x.am⟩) (y := x) rfl nd hx
  have p2 := self_perm nd hx
  have c0 := fit t j hj
  rw [← col_perm p2.symm t, col_snoc] at c0
  rw [← col_perm p1.symm t, col_snoc]
  have e0 : liveAt t (⟨x.key, x.b, e, x.am⟩ : Bw) = true ↔ x.b ≤ t ∧ t < e := live_in
  by_cases c : x.e ≤ t ∧ t < e
  · have m := (more_fits hl).mp (f t c.1 c.2) j hj
    rw [← col_perm p2.symm t, col_snoc, if_neg (by rw [live_in]; omega)] at m
    rw [if_pos (e0.mpr ⟨by omega, c.2⟩)]
    show col j (rs.filter fun z => decide (z.key ≠ x.key)) t + x.am.getD j 0 ≤ _
    omega
  · by_cases d : x.b ≤ t ∧ t < x.e
    · rw [if_pos (live_in.mpr d)] at c0
      rw [if_pos (e0.mpr ⟨d.1, by omega⟩)]
      exact c0
    · rw [if_neg (by rw [live_in]; exact d)] at c0
      rw [if_neg (by rw [e0]; omega)]
      exact c0
theorem fit_short {room : List Int} {rs : List Bw} {x : Bw} {t' : Int} (nn : NN rs) (nd : (rs.map (·.key)).Nodup) (hx : x ∈ rs) (hlt : t' < x.e) (fit : ∀ t, Fits room rs t) : ∀ t, Fits room (putR rs ⟨x.key, x.b, t', x.am⟩) t := fun t j hj => by
  have p1 := putR_perm (x := ⟨x.key, x.b, t', x.am⟩) (y := x) rfl nd hx
  have p2 := self_perm nd hx
  have c0 := fit t j hj
  rw [← col_perm p2.symm t, col_snoc] at c0
  rw [← col_perm p1.symm t, col_snoc]
  have e0 : liveAt t (⟨x.key, x.b, t', x.am⟩ : Bw) = true ↔ x.b ≤ t ∧ t < t' := live_in
  have n0 := getD_nn (nn x hx) j
  by_cases d : x.b ≤ t ∧ t < t'
  · rw [if_pos (live_in.mpr ⟨d.1, by omega⟩)] at c0
    rw [if_pos (e0.mpr d)]
    exact c0
  · rw [if_neg (by rw [e0]; exact d)]
    show col j (rs.filter fun z => decide (z.key ≠ x.key)) t + 0 ≤ _
    split at c0 <;> omega
theorem BGood.due {Z : List Str} {room : List Int} {rs rs' : List Bw} {d : Deed} {w : Str} {o : Out} (g : BGood Z room rs) (ok : DeedOk Z room d) (h : DueR room rs d w o rs') : BGood Z room rs' := by
  cases d with
  | put x =>
    obtain ⟨k1, k2, k3, k4, k5, k6⟩ := ok
    rcases h with ⟨_, _, _, e⟩ | ⟨a, f, hf, hk⟩
    · rw [e]; exact g
    · cases f with
      | some t => rw [hk.2.2]; exact g
      | none =>
        rw [hk.2.2]
        exact g.put k1 k2 k3 ⟨k4, k5⟩ k6 (fit_new k2 g.fit a hf)
  | cut z t =>
    rcases h with ⟨_, _, _, e⟩ | ⟨x, hx, ex, _, _, e⟩
    · rw [e]; exact g
    · rw [e]
      split
      · exact g.filter _
      · split
        · rename_i n1 n2
          have tm := g.tm x hx
          exact g.put (x := ⟨x.key, x.b, t, x.am⟩) (by show x.b < t; omega) (g.len x hx) (g.nn x hx) ⟨tm.1, by show t ≤ 2000000000; omega⟩ (g.key x hx) (fit_short g.nn g.nd hx n2 g.fit)
        · exact g
  | stretch z t =>
    rcases h with ⟨_, _, _, e⟩ | ⟨x, hx, ex, ⟨a, f, hf, hk⟩ | ⟨_, _, _, e⟩⟩
    · rw [e]; exact g
    · cases f with
      | some t => rw [hk.2.2]; exact g
      | none =>
        rw [hk.2.2]
        have tm := g.tm x hx
        have lt := g.lt x hx
        exact g.put (x := ⟨x.key, x.b, t, x.am⟩) (by show x.b < t; omega) (g.len x hx) (g.nn x hx) ⟨tm.1, ok.2⟩ (g.key x hx) (fit_long (g.len x hx) g.nd hx lt a g.fit hf)
    · rw [e]; exact g
  | drop z =>
    rcases h with ⟨_, _, _, e⟩ | ⟨_, _, _, e⟩
    · rw [e]; exact g
    · rw [e]; exact g.filter _
  | past t =>
    obtain ⟨ss, _, _, _, _, e⟩ := h
    rw [e]
    exact g.filter _
/-! as the book looks for it -/
theorem first_put {room : List Int} {rs : List Bw} {x : Bw} {ks : List Int} (hl : x.am.length = room.length) (lt : x.b < x.e) (fit : ∀ t, Fits room rs t) (hk : x.key ∉ keysB rs) (sr : Srt (withX rs x) ks) : IsFirst room rs x.am x.b x.e (ks.find? (ovr room.length (withX rs x) room)) := by
  have e : withX rs x = rs ++ [x] := by
    unfold withX
    have e1 : rs.filter (fun y => decide (y.key ≠ x.key)) = rs := List.filter_eq_self.mpr fun y hy => decide_eq_true fun q => hk (by rw [← q]; exact key_mem hy)
    rw [e1]
  refine first_book hl sr (fun t h1 h2 j => ?_) (fun t h j hj => ?_) ⟨x.b, (sr.2 _).mpr ⟨x, by rw [e]; exact List.mem_append.mpr (.inr (List.mem_singleton.mpr rfl)), .inl rfl⟩, Int.le_refl _⟩
  · rw [e, col_snoc, if_pos (live_in.mpr ⟨h1, h2⟩)]
  · rw [e, col_snoc, if_neg (by rw [live_in]; exact h)]
    have := fit t j hj
    omega
theorem first_stretch {room : List Int} {rs : List Bw} {x : Bw} {e : Int} {ks : List Int} (hl : x.am.length = room.length) (nd : (rs.map (·.key)).Nodup) (hx : x ∈ rs) (lt : x.b < x.e) (hlt : x.e < e) (fit : ∀ t, Fits room rs t) (sr : Srt (withX rs ⟨x.key, x.b, e, x.am⟩) ks) :
    IsFirst room rs x.am x.e e (ks.find? (ovr room.length (withX rs ⟨x.key, x.b, e, x.am⟩) room)) := by
  have p2 := self_perm nd hx
  have e0 : ∀ t, liveAt t (⟨x.key, x.b, e, x.am⟩ : Bw) = true ↔ x.b ≤ t ∧ t < e := fun t => live_in
  have c1 : ∀ j t, col j (withX rs ⟨x.key, x.b, e, x.am⟩) t = col j (rs.filter fun z => decide (z.key ≠ x.key)) t + (if liveAt t (⟨x.key, x.b, e, x.am⟩ : Bw) = true then x.am.getD j 0 else 0) := fun j t => col_snoc
  have c2 : ∀ j t, col j rs t = col j (rs.filter fun z => decide (z.key ≠ x.key)) t + (if liveAt t x = true then x.am.getD j 0 else 0) := fun j t => by rw [← col_perm p2.symm t, col_snoc]
  refine first_book hl sr (fun t h1 h2 j => ?_) (fun t h j hj => ?_) ⟨x.b, (sr.2 _).mpr ⟨_, List.mem_append.mpr (.inr (List.mem_singleton.mpr rfl)), .inl rfl⟩, Int.le_of_lt lt⟩
  · rw [c1, c2, if_pos ((e0 t).mpr ⟨by omega, h2⟩), if_neg (by rw [live_in]; omega)]
    omega
  · have f := fit t j hj
    rw [c2] at f
    rw [c1]
    by_cases d : x.b ≤ t ∧ t < x.e
    · rw [if_pos (live_in.mpr d)] at f
      rw [if_pos ((e0 t).mpr ⟨d.1, by omega⟩)]
      exact f
    · rw [if_neg (by rw [live_in]; exact d)] at f
      rw [if_neg (by rw [e0]; omega)]
      exact f
end My

namespace My
open PySem PySem.W PySem.Spec PyProof.Rows L2 GX GxR
/-! what is left over: by the law's times, by the book's stretches -/
def leftTs (room : List Int) (rs : List Bw) (ts : List Int) : List Int := ts.foldl (fun acc t => List.zipWith minI acc (lessL room (netB room.length rs t))) room
def valJ (room : List Int) (rs : List Bw) (j : Nat) (t : Int) : Int := room.getD j 0 - col j rs t
theorem zw_getD {f : Int → Int → Int} {xs ys : List Int} {j : Nat} (h1 : j < xs.length) (h2 : j < ys.length) : (List.zipWith f xs ys).getD j 0 = f (xs.getD j 0) (ys.getD j 0) := by
  rw [List.getD_eq_getElem?_getD, List.getElem?_zipWith, List.getElem?_eq_getElem h1, List.getElem?_eq_getElem h2, List.getD_eq_getElem?_getD, List.getD_eq_getElem?_getD, List.getElem?_eq_getElem h1, List.getElem?_eq_getElem h2]
  rfl
theorem less_col {room : List Int} {rs : List Bw} {t : Int} {j : Nat} (h : j < room.length) : (lessL room (netB room.length rs t)).getD j 0 = valJ room rs j t := by
  unfold lessL valJ
  rw [zw_getD h (by rw [netB_len]; exact h), net_col h]
theorem less_len2 {room : List Int} {rs : List Bw} {t : Int} : (lessL room (netB room.length rs t)).length = room.length := by
  unfold lessL
  rw [List.length_zipWith, netB_len, Nat.min_self]
theorem fold_col {α : Type} {w : Nat} {f : α → List Int} (hf : ∀ a, (f a).length = w) {j : Nat} (hj : j < w) : ∀ (l : List α) (acc : List Int), acc.length = w →
    (l.foldl (fun acc a => List.zipWith minI acc (f a)) acc).length = w ∧ (l.foldl (fun acc a => List.zipWith minI acc (f a)) acc).getD j 0 = l.foldl (fun x a => minI x ((f a).getD j 0)) (acc.getD j 0)
  | [], acc, h => ⟨h, rfl⟩
  | a :: l, acc, h => by
    have h1 : (List.zipWith minI acc (f a)).length = w := by rw [List.length_zipWith, h, hf, Nat.min_self]
    obtain ⟨i1, i2⟩ := fold_col hf hj l _ h1
    refine ⟨i1, ?_⟩
    rw [List.foldl_cons, List.foldl_cons, i2, zw_getD (by omega) (by rw [hf]; exact hj)]
theorem minI_le {a b : Int} : minI a b ≤ a ∧ minI a b ≤ b ∧ (minI a b = a ∨ minI a b = b) := by
  unfold minI
  split
  · exact ⟨by omega, Int.le_refl _, .inr rfl⟩
  · exact ⟨Int.le_refl _, by omega, .inl rfl⟩
theorem min_fold {α : Type} {g : α → Int} : ∀ (l : List α) (x : Int), l.foldl (fun x a => minI x (g a)) x ≤ x ∧ (∀ a ∈ l, l.foldl (fun x a => minI x (g a)) x ≤ g a) ∧ (l.foldl (fun x a => minI x (g a)) x = x ∨ ∃ a ∈ l, l.foldl (fun x a => minI x (g a)) x = g a)
  | [], x => ⟨Int.le_refl _, fun _ h => (nomatch h), .inl rfl⟩
  | a :: l, x => by
    obtain ⟨h1, h2, h3⟩ := min_fold (g := g) l (minI x (g a))
    obtain ⟨m1, m2, m3⟩ := minI_le (a := x) (b := g a)
    rw [List.foldl_cons]
    refine ⟨Int.le_trans h1 m1, fun b hb => ?_, ?_⟩
    · rcases List.mem_cons.mp hb with z | z
      · rw [z]
        exact Int.le_trans h1 m2
      · exact h2 b z
    · rcases h3 with h3 | ⟨b, hb, h3⟩
      · rcases m3 with m3 | m3
        · exact .inl (h3.trans m3)
        · exact .inr ⟨a, List.mem_cons_self, h3.trans m3⟩
      · exact .inr ⟨b, List.mem_cons_of_mem _ hb, h3⟩
theorem least_some {room : List Int} {rs : List Bw} : ∀ (l : List (Int × Int)) (v : List Int), l.foldl (leastStep room rs) (some v) = some (l.foldl (fun acc q => List.zipWith minI acc (lessL room (netB room.length rs q.1))) v)
  | [], _ => rfl
  | q :: l, v => by
    rw [List.foldl_cons, List.foldl_cons]
    exact least_some l _
/-- where a time stands among the edges -/
theorem zip_find : ∀ {ks : List Int}, ks.Pairwise (· < ·) → ∀ t : Int, (∃ q ∈ ks.zip (ks.drop 1), q.1 ≤ t ∧ t < q.2 ∧ ∀ v ∈ ks, v ≤ t → v ≤ q.1) ∨ (∀ k ∈ ks, t < k) ∨ (∀ k ∈ ks, k ≤ t)
  | [], _, t => .inr (.inl fun _ h => (nomatch h))
  | [a], _, t => by
    by_cases c : t < a
    · exact .inr (.inl fun k hk => by rw [List.mem_singleton.mp hk]; exact c)
    · exact .inr (.inr fun k hk => by rw [List.mem_singleton.mp hk]; omega)
  | a :: b :: ks, so, t => by
    have so' := so
    rw [List.pairwise_cons] at so
    have ab := so.1 b List.mem_cons_self
    have hd : (a :: b :: ks).zip ((a :: b :: ks).drop 1) = (a, b) :: (b :: ks).zip ((b :: ks).drop 1) := rfl
    rw [hd]
    rcases zip_find so.2 t with ⟨q, hq, h1, h2, h3⟩ | h | h
    · have hq1 : q.1 ∈ b :: ks := (List.of_mem_zip hq).1
      refine .inl ⟨q, List.mem_cons_of_mem _ hq, h1, h2, fun v hv hle => ?_⟩
      rcases List.mem_cons.mp hv with z | z
      · have := so.1 q.1 hq1
        omega
      · exact h3 v z hle
    · by_cases c : t < a
      · refine .inr (.inl fun k hk => ?_)
        rcases List.mem_cons.mp hk with z | z
        · omega
        · exact h k z
      · refine .inl ⟨(a, b), List.mem_cons_self, by show a ≤ t; omega, h b List.mem_cons_self, fun v hv hle => ?_⟩
        rcases List.mem_cons.mp hv with z | z
        · show v ≤ a
          omega
        · have := h v z
          omega
    · refine .inr (.inr fun k hk => ?_)
      rcases List.mem_cons.mp hk with z | z
      · have := h b List.mem_cons_self
        omega
      · exact h k z
theorem zip_next : ∀ {ks : List Int}, ks.Pairwise (· < ·) → ∀ q ∈ ks.zip (ks.drop 1), q.1 ∈ ks ∧ ∀ v ∈ ks, v ≤ q.1 ∨ q.2 ≤ v
  | [], _, q, h => nomatch h
  | [a], _, q, h => nomatch h
  | a :: b :: ks, so, q, h => by
    have hd : (a :: b :: ks).zip ((a :: b :: ks).drop 1) = (a, b) :: (b :: ks).zip ((b :: ks).drop 1) := rfl
    rw [hd] at h
    rw [List.pairwise_cons] at so
    rcases List.mem_cons.mp h with z | z
    · rw [z]
      refine ⟨List.mem_cons_self, fun v hv => ?_⟩
      rcases List.mem_cons.mp hv with y | y
      · exact .inl (by rw [y]; exact Int.le_refl _)
      · refine .inr ?_
        rcases List.mem_cons.mp y with x | x
        · rw [x]; exact Int.le_refl _
        · exact Int.le_of_lt ((List.pairwise_cons.mp so.2).1 v x)
    · obtain ⟨h1, h2⟩ := zip_next so.2 q z
      refine ⟨List.mem_cons_of_mem _ h1, fun v hv => ?_⟩
      rcases List.mem_cons.mp hv with y | y
      · left
        have := so.1 q.1 h1
        omega
      · exact h2 v y
theorem getD_ext {xs ys : List Int} (hl : xs.length = ys.length) (h : ∀ j, j < ys.length → xs.getD j 0 = ys.getD j 0) : xs = ys := by
  apply List.ext_getElem hl
  intro j h1 h2
  have := h j h2
  rw [List.getD_eq_getElem?_getD, List.getD_eq_getElem?_getD, List.getElem?_eq_getElem h1, List.getElem?_eq_getElem h2] at this
  exact this
/-- both come to the same -/
theorem leftTs_eq {room : List Int} {rs : List Bw} {b e : Int} {ks ts : List Int} (nn : NN rs) (sr : Srt rs ks) (lt : b < e) (hb : b ∈ ts) (ins : ∀ t ∈ ts, b ≤ t ∧ t < e) (all : ∀ k ∈ ks, b < k → k < e → k ∈ ts) :
    (leastLeft room rs b e (ks.zip (ks.drop 1))).getD room = leftTs room rs ts := by
  have cst : ∀ {j u t}, u ≤ t → (∀ v ∈ ks, v ≤ t → v ≤ u) → valJ room rs j t = valJ room rs j u := fun {j u t} h1 h2 => by
    unfold valJ
    rw [col_const h1 fun x hx => ⟨fun z => h2 _ ((sr.2 _).mpr ⟨x, hx, .inl rfl⟩) z, fun z => h2 _ ((sr.2 _).mpr ⟨x, hx, .inr rfl⟩) z⟩]
  have out : ∀ {j t}, (∀ x ∈ rs, liveAt t x = false) → valJ room rs j t = room.getD j 0 := fun {j t} h => by
    unfold valJ col
    rw [List.filter_eq_nil_iff.mpr fun x hx => by rw [h x hx]; exact Bool.false_ne_true]
    simp
  have F1 : ∀ t ∈ ts, ∀ j, valJ room rs j t = room.getD j 0 ∨ ∃ q ∈ (ks.zip (ks.drop 1)).filter (meets b e), valJ room rs j t = valJ room rs j q.1 := fun t ht j => by
    obtain ⟨t1, t2⟩ := ins t ht
    rcases zip_find sr.1 t with ⟨q, hq, h1, h2, h3⟩ | h | h
    · refine .inr ⟨q, List.mem_filter.mpr ⟨hq, ?_⟩, cst h1 h3⟩
      unfold meets
      rw [Bool.and_eq_true, decide_eq_true_eq, decide_eq_true_eq]
      omega
    · refine .inl (out fun x hx => live_out fun z => ?_)
      have := h x.b ((sr.2 _).mpr ⟨x, hx, .inl rfl⟩)
      omega
    · refine .inl (out fun x hx => live_out fun z => ?_)
      have := h x.e ((sr.2 _).mpr ⟨x, hx, .inr rfl⟩)
      omega
  have F2 : ∀ q ∈ (ks.zip (ks.drop 1)).filter (meets b e), ∃ t ∈ ts, ∀ j, valJ room rs j q.1 = valJ room rs j t := fun q hq => by
    obtain ⟨h1, h2⟩ := List.mem_filter.mp hq
    unfold meets at h2
    rw [Bool.and_eq_true, decide_eq_true_eq, decide_eq_true_eq] at h2
    obtain ⟨k1, k2⟩ := zip_next sr.1 q h1
    by_cases c : b < q.1
    · exact ⟨q.1, all q.1 k1 c h2.1, fun j => rfl⟩
    · refine ⟨b, hb, fun j => (cst (by omega) fun v hv hle => ?_).symm⟩
      rcases k2 v hv with z | z
      · exact z
      · omega
  have F3 : ∀ j t, valJ room rs j t ≤ room.getD j 0 := fun j t => by
    have := col_nn (j := j) (t := t) nn
    unfold valJ
    omega
  have lenF : ∀ t : Int, (lessL room (netB room.length rs t)).length = room.length := fun t => less_len2
  have lenL : (leftTs room rs ts).length = room.length := by
    cases hr : room.length with
    | zero =>
      have : ∀ (l : List Int) (acc : List Int), acc.length = 0 → (l.foldl (fun acc t => List.zipWith minI acc (lessL room (netB room.length rs t))) acc).length = 0 := by
        intro l
        induction l with
        | nil => exact fun _ h => h
        | cons t l ih =>
          intro acc h
          rw [List.foldl_cons]
          refine ih _ ?_
          rw [List.length_zipWith, h, Nat.zero_min]
      exact this ts room hr
    | succ n => rw [← hr]; exact (fold_col (f := fun t => lessL room (netB room.length rs t)) lenF (j := 0) (by omega) ts room rfl).1
  cases hm : (ks.zip (ks.drop 1)).filter (meets b e) with
  | nil =>
    unfold leastLeft
    rw [hm]
    refine getD_ext lenL.symm fun j hj => ?_
    rw [lenL] at hj
    have e1 := (fold_col (f := fun t => lessL room (netB room.length rs t)) lenF hj ts room rfl).2
    show room.getD j 0 = (leftTs room rs ts).getD j 0
    unfold leftTs
    rw [e1]
    rcases (min_fold (g := fun t => (lessL room (netB room.length rs t)).getD j 0) ts (room.getD j 0)).2.2 with h | ⟨t, ht, h⟩
    · exact h.symm
    · rw [h, less_col hj]
      rcases F1 t ht j with z | ⟨q, hq, _⟩
      · exact z.symm
      · rw [hm] at hq
        cases hq
  | cons q0 qs =>
    unfold leastLeft
    rw [hm, List.foldl_cons]
    show ((qs.foldl (leastStep room rs) (some (lessL room (netB room.length rs q0.1)))).getD room) = _
    rw [least_some]
    show qs.foldl (fun acc q => List.zipWith minI acc (lessL room (netB room.length rs q.1))) (lessL room (netB room.length rs q0.1)) = _
    have lenQ : ∀ q : Int × Int, (lessL room (netB room.length rs q.1)).length = room.length := fun q => less_len2
    have len0 : (qs.foldl (fun acc q => List.zipWith minI acc (lessL room (netB room.length rs q.1))) (lessL room (netB room.length rs q0.1))).length = room.length := by
      have : ∀ (l : List (Int × Int)) (acc : List Int), acc.length = room.length → (l.foldl (fun acc q => List.zipWith minI acc (lessL room (netB room.length rs q.1))) acc).length = room.length := by
        intro l
        induction l with
        | nil => exact fun _ h => h
        | cons q l ih =>
          intro acc h
          rw [List.foldl_cons]
          refine ih _ ?_
          rw [List.length_zipWith, h, lenQ, Nat.min_self]
      exact this qs _ (lenQ q0)
    refine getD_ext (len0.trans lenL.symm) fun j hj => ?_
    rw [lenL] at hj
    have e1 := (fold_col (f := fun t => lessL room (netB room.length rs t)) lenF hj ts room rfl).2
    have e2 := (fold_col (f := fun q : Int × Int => lessL room (netB room.length rs q.1)) lenQ hj qs _ (lenQ q0)).2
    rw [e2]
    show _ = (leftTs room rs ts).getD j 0
    unfold leftTs
    rw [e1]
    obtain ⟨a1, a2, a3⟩ := min_fold (g := fun q : Int × Int => (lessL room (netB room.length rs q.1)).getD j 0) qs ((lessL room (netB room.length rs q0.1)).getD j 0)
    obtain ⟨b1, b2, b3⟩ := min_fold (g := fun t => (lessL room (netB room.length rs t)).getD j 0) ts (room.getD j 0)
    generalize qs.foldl (fun x q => minI x ((lessL room (netB room.length rs q.1)).getD j 0)) ((lessL room (netB room.length rs q0.1)).getD j 0) = A at a1 a2 a3
    generalize ts.foldl (fun x t => minI x ((lessL room (netB room.length rs t)).getD j 0)) (room.getD j 0) = B at b1 b2 b3
    rw [less_col hj] at a1 a3
    have lowA : ∀ q ∈ q0 :: qs, A ≤ valJ room rs j q.1 := fun q hq => by
      rcases List.mem_cons.mp hq with z | z
      · rw [z]; exact a1
      · have := a2 q z
        rw [less_col hj] at this
        exact this
    have atA : ∃ q ∈ q0 :: qs, A = valJ room rs j q.1 := by
      rcases a3 with h | ⟨q, hq, h⟩
      · exact ⟨q0, List.mem_cons_self, h⟩
      · rw [less_col hj] at h
        exact ⟨q, List.mem_cons_of_mem _ hq, h⟩
    have le1 : B ≤ A := by
      obtain ⟨q, hq, h⟩ := atA
      obtain ⟨t, ht, ht2⟩ := F2 q (by rw [hm]; exact hq)
      have := b2 t ht
      rw [less_col hj] at this
      rw [h, ht2 j]
      exact this
    have rm : A ≤ room.getD j 0 := Int.le_trans (lowA q0 List.mem_cons_self) (F3 j q0.1)
    have le2 : A ≤ B := by
      rcases b3 with h | ⟨t, ht, h⟩
      · rw [h]; exact rm
      · rw [less_col hj] at h
        rw [h]
        rcases F1 t ht j with z | ⟨q, hq, z⟩
        · rw [z]; exact rm
        · rw [z]
          exact lowA q (by rw [hm] at hq; exact hq)
    omega
end My

namespace My
open PySem PySem.Spec PyProof.Rows L2 GX GxR
abbrev s_scKDeed : Stmt := topS 41
abbrev n_scKDeed : List Str := ["_law_box_here", "_law_m", "_law_words", "_law_many", "_law_word_here", "_law_key", "_law_there"]
theorem scKDeed : FnScope n_scKDeed ["_law_box_here", "_law_m", "_law_words", "_law_many"] (defScope s_scKDeed) := ⟨rfl, rfl, rfl, by decide +kernel, rfl, by decide +kernel, by decide +kernel⟩
def nameN (n : Nat) : Str := nameOf (n % 26) (n / 26 % 4)
def namesN (many : Nat) : List Str := (List.range many).map nameN
theorem nameN_ok (n : Nat) : PySem.PyData.strOk (nameN n) = true ∧ (nameN n).length ≤ 8 := name_ok _ (Nat.mod_lt _ (by decide)) _ (Nat.mod_lt _ (by decide))
theorem namesN_ok {many : Nat} {z : Str} (h : z ∈ namesN many) : PySem.PyData.strOk z = true ∧ z.length ≤ 8 := by
  obtain ⟨n, _, rfl⟩ := List.mem_map.mp h
  exact nameN_ok n
def DeedAt (H : Hp) (p : Addr) : Deed → Prop
  | .put x => ∃ am, H p = some (.tup [.str "put", .str x.key, .int x.b, .int x.e, .ref am]) ∧ H am = some (.tup (x.am.map V.int))
  | .cut z t => H p = some (.tup [.str "cut", .str z, .int t])
  | .stretch z t => H p = some (.tup [.str "stretch", .str z, .int t])
  | .drop z => H p = some (.tup [.str "drop", .str z])
  | .past t => H p = some (.tup [.str "past", .int t])
theorem DeedAt.kt {H H' : Hp} {p : Addr} {dd : Deed} (k : KTu H H') (h : DeedAt H p dd) : DeedAt H' p dd := by
  cases dd with
  | put x =>
    obtain ⟨am, h1, h2⟩ := h
    exact ⟨am, k _ _ h1, k _ _ h2⟩
  | cut z t => exact k _ _ h
  | stretch z t => exact k _ _ h
  | drop z => exact k _ _ h
  | past t => exact k _ _ h
def wordD : Deed → Str
  | .put _ => "put"
  | .cut _ _ => "cut"
  | .stretch _ _ => "stretch"
  | .drop _ => "drop"
  | .past _ => "past"
theorem tst_eq {a : Str} : V.bl (decide (V.str a = V.str a)) = V.bl true := by rw [decide_eq_true rfl]
theorem tst_ne {a b : Str} (h : a ≠ b) : V.bl (decide (V.str a = V.str b)) = V.bl false := by rw [decide_eq_false fun z => h (V.str.inj z)]
theorem strs_nil : ∀ zs : List Str, PyData.eqv (.list (zs.map PyData.str)) (.list []) = zs.isEmpty
  | [] => rfl
  | _ :: _ => rfl
theorem Bt.kt {H H' : Hp} {b : Addr} (B : Bt H b) (k : Kp [b] H H') : KTu H H' := fun x xs e => k _ _ (B.off e fun _ z => by cases z) e
theorem Bt.strs {H : Hp} {b l : Addr} {ws : List Str} (B : Bt H b) (h : H l = some (.lst (ws.map V.str))) : l ∉ [b] := fun z => by
  obtain ⟨xs, h1, d, m, rfl, _⟩ := B
  rw [List.mem_singleton.mp z, h1] at h
  have h := HO.lst.inj (Option.some.inj h)
  cases ws with
  | nil => cases h
  | cons w ws => cases h
def spDeed : Sp := fun vs H Q _ => ∃ (b m pr rd wl : Addr) (ns : List Int) (top wide : Int) (rows : List (Str × V)) (es : List Ent) (ws : List Str) (many : Nat), vs = [.ref b, .ref m, .ref wl, .int (many : Int)] ∧ Bt H b ∧ MAt H m pr rd ns top wide rows ∧ Ents H rows es ∧ es.length < 110 ∧ (∀ r ∈ es, PySem.PyData.strOk r.key = true ∧ r.key.length ≤ 8) ∧
  H wl = some (.lst (ws.map V.str)) ∧ 0 < ws.length ∧ ws.length ≤ 100 ∧ (∀ x ∈ ws, x = "put" ∨ x = "cut" ∨ x = "stretch" ∨ x = "drop" ∨ x = "past") ∧ 0 < many ∧ many ≤ 104 ∧
  ∀ p dd H', Kp [b] H H' → Bt H' b → H p = none → DeedAt H' p dd → DeedOk (namesN many) ns dd → wordD dd ∈ ws → Q (.ref p) H'
section
variable {P : Program} {w : World} {K : PySem.W.Frag} {mg : Str → Option Value} {base : Heap}
set_option maxHeartbeats 1000000 in
theorem ok_kdeed {f fT fN fS fW fM : Addr} {fd fdT fdN fdS fdW fdM : FuncData} {k : Nat} (F : Fun K "_law_deed" "_law_deed" s_scKDeed f fd) (X : Txt mg) (mSorted : mg "sorted" = none)
    (GT : FnOk P w K mg base CX0 k fT fdT ["_law_box_here", "_law_many"] spTake2) (mT : mg "_law_take" = some (.ref fT)) (kT : PySem.W.keepIn K (.ref fT) = true) (bT : L2.Binds K fdT ["_law_box_here", "_law_many"] [])
    (GN : FnOk P w K mg base CX0 k fN fdN ["_law_n"] spName) (mN : mg "_law_name" = some (.ref fN)) (kN : PySem.W.keepIn K (.ref fN) = true) (bN : L2.Binds K fdN ["_law_n"] [])
    (GS : FnOk P w K mg base CX0 k fS fdS ["_law_box_here", "_law_m"] spSpan) (mS : mg "_law_span" = some (.ref fS)) (kS : PySem.W.keepIn K (.ref fS) = true) (bS : L2.Binds K fdS ["_law_box_here", "_law_m"] [])
    (GW : FnOk P w K mg base CX0 k fW fdW ["_law_box_here", "_law_m"] spWanted) (mW : mg "_law_wanted" = some (.ref fW)) (kW : PySem.W.keepIn K (.ref fW) = true) (bW : L2.Binds K fdW ["_law_box_here", "_law_m"] [])
    (GM : FnOk P w K mg base CX0 k fM fdM ["_law_box_here", "_law_m"] spTime) (mM : mg "_law_time" = some (.ref fM)) (kM : PySem.W.keepIn K (.ref fM) = true) (bM : L2.Binds K fdM ["_law_box_here", "_law_m"] []) :
    FnOk P w K mg base CX0 (k + 1) f fd ["_law_box_here", "_law_m", "_law_words", "_law_many"] spDeed := by
  refine F.ok scKDeed (fun vs H Q E h => ?_) (fun cdv A outer s H vs Q E hr h => ?_)
  · obtain ⟨b, m, pr, rd, wl, ns, top, wide, rows, es, ws, many, rfl, _⟩ := h
    rfl
  · obtain ⟨b, m, pr, rd, wl, ns, top, wide, rows, es, ws, many, rfl, hB, M, hE, hl, hk, hw, w1, w2, w5, n0, n1, q⟩ := h
    refine ⟨_, (pss_cons (ps_set (i := 4) scKDeed.nd rfl (.inl rfl) (pe_ix ix_list (pv 2) (pe_call GT hr (by rfl) mT kT bT .nil pass0 (pa_cons (pv 0) (pa_cons (pe_callB call_len_seq (by rfl) X.len PySem.boot_len (pa_cons (pv 2) pa_nil)) pa_nil))) (fun _ _ => rfl)))
      (pss_cons (ps_set (i := 5) scKDeed.nd rfl (.inl rfl) (pe_call GN hr (by rfl) mN kN bN .nil pass0 (pa_cons (pe_call GT hr (by rfl) mT kT bT .nil pass0 (pa_cons (pv 0) (pa_cons (pv 3) pa_nil))) pa_nil)))
      (pss_cons (ps_set (i := 6) scKDeed.nd rfl (.inl rfl) (pe_callB (SX.cr_sortDk rfl hr.units) (by rfl) mSorted (by decide +kernel) (pa_cons (pe_dget (hu_of hr) (pv 1) pe_str (fun _ _ => rfl)) pa_nil)))
      (pss_cons (ps_if (pt_cmpR op_eq (pv 4) pe_str (nomark _))
        (pss_one (ps_ret (pe_op op_catA (pe_op op_catA (pe_tup (pa_cons (pv 4) (pa_cons (pv 5) pa_nil))) (pe_call GS hr (by rfl) mS kS bS .nil pass0 (pa_cons (pv 0) (pa_cons (pv 1) pa_nil)))) (pe_tup (pa_cons (pe_call GW hr (by rfl) mW kW bW .nil pass0 (pa_cons (pv 0) (pa_cons (pv 1) pa_nil))) pa_nil)))))
        pss_nil)
      (pss_cons (ps_if (pt_cmpR op_eq (pv 4) pe_str (nomark _))
        (pss_one (ps_ret (pe_tup (pa_cons (pv 4) (pa_cons (pe_call GM hr (by rfl) mM kM bM .nil pass0 (pa_cons (pv 0) (pa_cons (pv 1) pa_nil))) pa_nil)))))
        pss_nil)
      (C8.pss_cut (ps_if (PW.pt (pw_and (pt_cmpR (op_neD hr.units) (pv 6) (pe_lst pa_nil) (nomark _)) (pw_and1 (pt_cmpR op_gt (pe_call GT hr (by rfl) mT kT bT .nil pass0 (pa_cons (pv 0) (pa_cons pe_int pa_nil))) pe_int (nomark _)))))
        (pss_one (ps_set (i := 5) scKDeed.nd rfl (.inl rfl) (pe_ix ix_list (pv 6) (pe_call GT hr (by rfl) mT kT bT .nil pass0 (pa_cons (pv 0) (pa_cons (pe_callB call_len_seq (by rfl) X.len PySem.boot_len (pa_cons (pv 6) pa_nil)) pa_nil))) (fun _ _ => rfl))))
        pss_nil)
      (pss_cons (ps_if (pt_cmpR op_eq (pv 4) pe_str (nomark _))
        (pss_one (ps_ret (pe_tup (pa_cons (pv 4) (pa_cons (pv 5) pa_nil)))))
        pss_nil)
      (pss_one (ps_ret (pe_tup (pa_cons (pv 4) (pa_cons (pv 5) (pa_cons (pe_call GM hr (by rfl) mM kM bM .nil pass0 (pa_cons (pv 0) (pa_cons (pv 1) pa_nil))) pa_nil))))))))))))), ?_⟩
    have ky : (rows.map fun r => ((Sum.inr r.1 : Key), r.2)).map (·.1) = (es.map (·.key)).map Sum.inr := by
      rw [← hE.keys, List.map_map, List.map_map]
      rfl
    -- the word
    refine ⟨.ref wl, rfl, _, rfl, _, rfl, wl, _, rfl, .inl (SqL.of hw), b, _, rfl, hB, by rw [List.length_map]; omega, by rw [List.length_map]; omega, fun r H1 r0 r1 k1 B1 => ?_⟩
    rw [List.length_map] at r1
    obtain ⟨j, rfl⟩ : ∃ j : Nat, r = (j : Int) := ⟨r.toNat, by omega⟩
    have hj : j < ws.length := by omega
    obtain ⟨wd, hwd⟩ : ∃ wd, ws[j]? = some wd := ⟨_, List.getElem?_eq_getElem hj⟩
    have wm : wd ∈ ws := List.mem_of_getElem? hwd
    have hw1 := k1 _ _ (hB.strs hw) hw
    refine ⟨wl, _, (j : Int), .str wd, rfl, rfl, SqL.of hw1, atI_nat (by rw [List.getElem?_map, hwd]; rfl), ?_⟩
    -- the key
    refine ⟨_, rfl, _, rfl, b, _, rfl, B1, by omega, by omega, fun r2 H2 r20 r21 k2 B2 => ?_⟩
    obtain ⟨n, rfl⟩ : ∃ n : Nat, r2 = (n : Int) := ⟨r2.toNat, by omega⟩
    refine ⟨n, rfl, fun z H3 s3 z1 z2 ze => ?_⟩
    have k3 : Kp [b] H H3 := (k1.trans k2).trans (Same.kp _ s3)
    have B3 := B2.same s3
    have M3 := M.kp hB k3
    have E3 := hE.imp fun v r h => h.kp hB k3
    have zi : z ∈ namesN many := List.mem_map.mpr ⟨n, List.mem_range.mpr (by omega), ze.symm⟩
    -- the keys that are there
    refine ⟨_, rfl, m, .ref rd, rfl, DGet.k (k := .inr "rows") M3.dict, rd, _, es.map (·.key), rfl, Rd.of M3.rows, ky, by rw [List.length_map]; omega, fun ys pt pm so npt => ?_⟩
    have s4 : Same H3 (upd H3 pt (.lst (ys.map V.str))) := same_upd npt
    have e4 : upd H3 pt (.lst (ys.map V.str)) pt = some (.lst (ys.map V.str)) := upd_same
    generalize upd H3 pt (.lst (ys.map V.str)) = H4 at s4 e4 ⊢
    have k4 : Kp [b] H H4 := k3.trans (Same.kp _ s4)
    have B4 := B3.same s4
    have M4 := M.kp hB k4
    have E4 := hE.imp fun v r h => h.kp hB k4
    have free : ∀ {p : Addr} {Hx : Hp}, Kp [b] H Hx → Bt Hx b → Hx p = none → H p = none := fun kx Bx n => kp_free kx (Bx.nb n) n
    have lt : es.length ≤ 1000 := by omega
    rcases w5 wd wm with rfl | rfl | rfl | rfl | rfl
    · -- put
      refine ⟨_, rfl, rfl, true, tst_eq, iteT ?_⟩
      refine ⟨_, rfl, _, rfl, by show 2 ≤ sizeLine; decide, fun T1 nT1 => ?_⟩
      have s5 := same_upd (o := .tup [V.str "put", .str z]) nT1
      have e5 : upd H4 T1 (.tup [V.str "put", .str z]) T1 = some (.tup [V.str "put", .str z]) := upd_same
      generalize upd H4 T1 (.tup [V.str "put", .str z]) = H5 at s5 e5 ⊢
      have k5 : Kp [b] H H5 := k4.trans (Same.kp _ s5)
      have B5 := B4.same s5
      refine ⟨_, rfl, _, rfl, b, m, pr, rd, ns, top, wide, rows, es, rfl, B5, M.kp hB k5, hE.imp (fun v r h => h.kp hB k5), lt, fun p6 t u H6 t0 tu u2 k6 B6 np6 e6 => ?_⟩
      have kt6 := B5.kt k6
      refine ⟨T1, p6, _, _, rfl, rfl, SqT.of (kt6 _ _ e5), SqT.of e6, by show 2 + 2 ≤ sizeLine; decide, (fun e => nomatch e), (fun _ e => nomatch e), fun _ _ T7 nT7 => ?_⟩
      have s7 := same_upd (o := .tup ([V.str "put", .str z] ++ [.int t, .int u])) nT7
      have e7 : upd H6 T7 (.tup ([V.str "put", .str z] ++ [.int t, .int u])) T7 = some (.tup ([V.str "put", .str z] ++ [.int t, .int u])) := upd_same
      generalize upd H6 T7 (.tup ([V.str "put", .str z] ++ [.int t, .int u])) = H7 at s7 e7 ⊢
      have k7 : Kp [b] H H7 := (k5.trans k6).trans (Same.kp _ s7)
      have B7 := B6.same s7
      refine ⟨_, rfl, _, rfl, b, m, pr, rd, ns, top, wide, rows, rfl, B7, M.kp hB k7, fun p8 as H8 has las k8 B8 np8 e8 => ?_⟩
      refine ⟨by show 1 ≤ sizeLine; decide, fun T9 nT9 => ?_⟩
      have s9 := same_upd (o := .tup [V.ref p8]) nT9
      have e9 : upd H8 T9 (.tup [V.ref p8]) T9 = some (.tup [V.ref p8]) := upd_same
      generalize upd H8 T9 (.tup [V.ref p8]) = H9 at s9 e9 ⊢
      have e97 := s9 _ _ (B7.kt k8 _ _ e7)
      refine ⟨T7, T9, _, _, rfl, rfl, SqT.of e97, SqT.of e9, by show 4 + 1 ≤ sizeLine; decide, (fun e => nomatch e), (fun _ e => nomatch e), fun _ _ T10 nT10 => ?_⟩
      have k9 : Kp [b] H H9 := (k7.trans k8).trans (Same.kp _ s9)
      have B9 := B8.same s9
      exact q T10 (.put ⟨z, t, u, as⟩) _ (kp_new k9 nT10) (B9.same (same_upd nT10)) (free k9 B9 nT10) ⟨p8, upd_same, same_upd nT10 _ _ (s9 _ _ e8)⟩ ⟨tu, las, fun n hn => (has n hn).1, t0, u2, zi⟩ wm
    · -- cut
      refine ⟨_, rfl, rfl, false, tst_ne (by decide +kernel), iteF ?_⟩
      refine ⟨_, rfl, rfl, false, tst_ne (by decide +kernel), iteF ?_⟩
      refine ⟨fun σ H' => ∃ z' : Str, σ = [some (.ref b), some (.ref m), some (.ref wl), some (.int (many : Int)), some (.str "cut"), some (.str z'), some (.ref pt)] ∧ Kp [b] H H' ∧ Bt H' b ∧ z'.length ≤ 100, ?_, fun σ H' hm => ?_⟩
      · refine ⟨_, rfl, by show 0 ≤ sizeLine; decide, fun l nl => ?_⟩
        have s5 := same_upd (o := .lst []) nl
        have e5 := s5 _ _ e4
        have oky : ∀ z ∈ ys, PySem.PyData.strOk z = true ∧ z.length ≤ 8 := fun z hz => by
          obtain ⟨r, hr, rfl⟩ := List.mem_map.mp (pm.mem_iff.mp hz)
          exact hk r hr
        refine ⟨_, _, .lst (SqL.of e5) (dp_strs ys), .lst (SqL.of upd_same) .nil, sh_strs fun z hz => (oky z hz).1, sh_strs (zs := []) (fun _ h => (nomatch h)), ?_⟩
        rw [strs_nil]
        have k5 : Kp [b] H (upd H4 l (.lst [])) := k4.trans (Same.kp _ s5)
        have B5 := B4.same s5
        have zl0 : z.length ≤ 100 := by omega
        generalize upd H4 l (.lst []) = H5 at s5 e5 k5 B5 ⊢
        cases ys with
        | nil => exact ⟨false, rfl, iteF (iteF ⟨z, rfl, k5, B5, zl0⟩)⟩
        | cons y1 ys1 =>
          refine ⟨true, rfl, iteT ?_⟩
          refine ⟨_, rfl, b, 6, rfl, B5, by decide, by decide, fun r5 H6 r50 r51 k6 B6 => ⟨_, _, rfl, rfl, _, rfl, ite2 (fun g => ?_) (fun g => ?_)⟩⟩
          · have e6 := k6 _ _ (B5.strs e5) e5
            have lys : (y1 :: ys1).length < 110 := by rw [pm.length_eq, List.length_map]; exact hl
            refine ⟨.ref pt, rfl, _, rfl, _, rfl, pt, _, rfl, .inl (SqL.of e6), b, _, rfl, B6, by rw [List.length_map, List.length_cons]; omega, by rw [List.length_map]; omega, fun r7 H7 r70 r71 k7 B7 => ?_⟩
            rw [List.length_map] at r71
            obtain ⟨i, rfl⟩ : ∃ i : Nat, r7 = (i : Int) := ⟨r7.toNat, by omega⟩
            have hi : i < (y1 :: ys1).length := by omega
            have e7 := k7 _ _ (B6.strs e6) e6
            refine ⟨pt, _, (i : Int), .str (y1 :: ys1)[i], rfl, rfl, SqL.of e7, atI_nat (by rw [List.getElem?_map, List.getElem?_eq_getElem hi]; rfl), ?_⟩
            exact ⟨(y1 :: ys1)[i], rfl, (k5.trans k6).trans k7, B7, by have := (oky _ (List.getElem_mem hi)).2; omega⟩
          · exact ⟨z, rfl, k5.trans k6, B6, zl0⟩
      · obtain ⟨z', rfl, k5, B5, zl⟩ := hm
        refine ⟨_, rfl, rfl, false, tst_ne (by decide +kernel), iteF ?_⟩
        refine ⟨_, rfl, _, rfl, _, rfl, _, rfl, b, m, pr, rd, ns, top, wide, rows, es, rfl, B5, M.kp hB k5, hE.imp (fun v r h => h.kp hB k5), lt, fun t H6 t0 t1 k6 B6 => ⟨by show 3 ≤ sizeLine; decide, fun T nT => ?_⟩⟩
        exact q T (.cut z' t) _ (kp_new (k5.trans k6) nT) (B6.same (same_upd nT)) (free (k5.trans k6) B6 nT) upd_same zl wm
    · -- stretch
      refine ⟨_, rfl, rfl, false, tst_ne (by decide +kernel), iteF ?_⟩
      refine ⟨_, rfl, rfl, false, tst_ne (by decide +kernel), iteF ?_⟩
      refine ⟨fun σ H' => ∃ z' : Str, σ = [some (.ref b), some (.ref m), some (.ref wl), some (.int (many : Int)), some (.str "stretch"), some (.str z'), some (.ref pt)] ∧ Kp [b] H H' ∧ Bt H' b ∧ z'.length ≤ 100, ?_, fun σ H' hm => ?_⟩
      · refine ⟨_, rfl, by show 0 ≤ sizeLine; decide, fun l nl => ?_⟩
        have s5 := same_upd (o := .lst []) nl
        have e5 := s5 _ _ e4
        have oky : ∀ z ∈ ys, PySem.PyData.strOk z = true ∧ z.length ≤ 8 := fun z hz => by
          obtain ⟨r, hr, rfl⟩ := List.mem_map.mp (pm.mem_iff.mp hz)
          exact hk r hr
        refine ⟨_, _, .lst (SqL.of e5) (dp_strs ys), .lst (SqL.of upd_same) .nil, sh_strs fun z hz => (oky z hz).1, sh_strs (zs := []) (fun _ h => (nomatch h)), ?_⟩
        rw [strs_nil]
        have k5 : Kp [b] H (upd H4 l (.lst [])) := k4.trans (Same.kp _ s5)
        have B5 := B4.same s5
        have zl0 : z.length ≤ 100 := by omega
        generalize upd H4 l (.lst []) = H5 at s5 e5 k5 B5 ⊢
        cases ys with
        | nil => exact ⟨false, rfl, iteF (iteF ⟨z, rfl, k5, B5, zl0⟩)⟩
        | cons y1 ys1 =>
          refine ⟨true, rfl, iteT ?_⟩
          refine ⟨_, rfl, b, 6, rfl, B5, by decide, by decide, fun r5 H6 r50 r51 k6 B6 => ⟨_, _, rfl, rfl, _, rfl, ite2 (fun g => ?_) (fun g => ?_)⟩⟩
          · have e6 := k6 _ _ (B5.strs e5) e5
            have lys : (y1 :: ys1).length < 110 := by rw [pm.length_eq, List.length_map]; exact hl
            refine ⟨.ref pt, rfl, _, rfl, _, rfl, pt, _, rfl, .inl (SqL.of e6), b, _, rfl, B6, by rw [List.length_map, List.length_cons]; omega, by rw [List.length_map]; omega, fun r7 H7 r70 r71 k7 B7 => ?_⟩
            rw [List.length_map] at r71
            obtain ⟨i, rfl⟩ : ∃ i : Nat, r7 = (i : Int) := ⟨r7.toNat, by omega⟩
            have hi : i < (y1 :: ys1).length := by omega
            have e7 := k7 _ _ (B6.strs e6) e6
            refine ⟨pt, _, (i : Int), .str (y1 :: ys1)[i], rfl, rfl, SqL.of e7, atI_nat (by rw [List.getElem?_map, List.getElem?_eq_getElem hi]; rfl), ?_⟩
            exact ⟨(y1 :: ys1)[i], rfl, (k5.trans k6).trans k7, B7, by have := (oky _ (List.getElem_mem hi)).2; omega⟩
          · exact ⟨z, rfl, k5.trans k6, B6, zl0⟩
      · obtain ⟨z', rfl, k5, B5, zl⟩ := hm
        refine ⟨_, rfl, rfl, false, tst_ne (by decide +kernel), iteF ?_⟩
        refine ⟨_, rfl, _, rfl, _, rfl, _, rfl, b, m, pr, rd, ns, top, wide, rows, es, rfl, B5, M.kp hB k5, hE.imp (fun v r h => h.kp hB k5), lt, fun t H6 t0 t1 k6 B6 => ⟨by show 3 ≤ sizeLine; decide, fun T nT => ?_⟩⟩
        exact q T (.stretch z' t) _ (kp_new (k5.trans k6) nT) (B6.same (same_upd nT)) (free (k5.trans k6) B6 nT) upd_same ⟨zl, by have := M.wid1; omega⟩ wm
    · -- drop
      refine ⟨_, rfl, rfl, false, tst_ne (by decide +kernel), iteF ?_⟩
      refine ⟨_, rfl, rfl, false, tst_ne (by decide +kernel), iteF ?_⟩
      refine ⟨fun σ H' => ∃ z' : Str, σ = [some (.ref b), some (.ref m), some (.ref wl), some (.int (many : Int)), some (.str "drop"), some (.str z'), some (.ref pt)] ∧ Kp [b] H H' ∧ Bt H' b ∧ z'.length ≤ 100, ?_, fun σ H' hm => ?_⟩
      · refine ⟨_, rfl, by show 0 ≤ sizeLine; decide, fun l nl => ?_⟩
        have s5 := same_upd (o := .lst []) nl
        have e5 := s5 _ _ e4
        have oky : ∀ z ∈ ys, PySem.PyData.strOk z = true ∧ z.length ≤ 8 := fun z hz => by
          obtain ⟨r, hr, rfl⟩ := List.mem_map.mp (pm.mem_iff.mp hz)
          exact hk r hr
        refine ⟨_, _, .lst (SqL.of e5) (dp_strs ys), .lst (SqL.of upd_same) .nil, sh_strs fun z hz => (oky z hz).1, sh_strs (zs := []) (fun _ h => (nomatch h)), ?_⟩
        rw [strs_nil]
        have k5 : Kp [b] H (upd H4 l (.lst [])) := k4.trans (Same.kp _ s5)
        have B5 := B4.same s5
        have zl0 : z.length ≤ 100 := by omega
        generalize upd H4 l (.lst []) = H5 at s5 e5 k5 B5 ⊢
        cases ys with
        | nil => exact ⟨false, rfl, iteF (iteF ⟨z, rfl, k5, B5, zl0⟩)⟩
        | cons y1 ys1 =>
          refine ⟨true, rfl, iteT ?_⟩
          refine ⟨_, rfl, b, 6, rfl, B5, by decide, by decide, fun r5 H6 r50 r51 k6 B6 => ⟨_, _, rfl, rfl, _, rfl, ite2 (fun g => ?_) (fun g => ?_)⟩⟩
          · have e6 := k6 _ _ (B5.strs e5) e5
            have lys : (y1 :: ys1).length < 110 := by rw [pm.length_eq, List.length_map]; exact hl
            refine ⟨.ref pt, rfl, _, rfl, _, rfl, pt, _, rfl, .inl (SqL.of e6), b, _, rfl, B6, by rw [List.length_map, List.length_cons]; omega, by rw [List.length_map]; omega, fun r7 H7 r70 r71 k7 B7 => ?_⟩
            rw [List.length_map] at r71
            obtain ⟨i, rfl⟩ : ∃ i : Nat, r7 = (i : Int) := ⟨r7.toNat, by omega⟩
            have hi : i < (y1 :: ys1).length := by omega
            have e7 := k7 _ _ (B6.strs e6) e6
            refine ⟨pt, _, (i : Int), .str (y1 :: ys1)[i], rfl, rfl, SqL.of e7, atI_nat (by rw [List.getElem?_map, List.getElem?_eq_getElem hi]; rfl), ?_⟩
            exact ⟨(y1 :: ys1)[i], rfl, (k5.trans k6).trans k7, B7, by have := (oky _ (List.getElem_mem hi)).2; omega⟩
          · exact ⟨z, rfl, k5.trans k6, B6, zl0⟩
      · obtain ⟨z', rfl, k5, B5, zl⟩ := hm
        refine ⟨_, rfl, rfl, true, tst_eq, iteT ?_⟩
        refine ⟨_, rfl, _, rfl, by show 2 ≤ sizeLine; decide, fun T nT => ?_⟩
        exact q T (.drop z') _ (kp_new k5 nT) (B5.same (same_upd nT)) (free k5 B5 nT) upd_same zl wm
    · -- past
      refine ⟨_, rfl, rfl, false, tst_ne (by decide +kernel), iteF ?_⟩
      refine ⟨_, rfl, rfl, true, tst_eq, iteT ?_⟩
      refine ⟨_, rfl, _, rfl, _, rfl, b, m, pr, rd, ns, top, wide, rows, es, rfl, B4, M4, E4, lt, fun t H6 t0 t1 k6 B6 => ⟨by show 2 ≤ sizeLine; decide, fun T nT => ?_⟩⟩
      exact q T (.past t) _ (kp_new (k4.trans k6) nT) (B6.same (same_upd nT)) (free (k4.trans k6) B6 nT) upd_same trivial wm
end
end My

namespace My
open PySem PySem.Spec PyProof.Rows L2 GX GxR
abbrev s_scKPDue : Stmt := topS 43
abbrev n_scKPDue : List Str := ["_law_m", "_law_deed_here", "_law_word_here", "_law_key", "_law_begin", "_law_end", "_law_amount_here", "_law_time_here"]
theorem scKPDue : FnScope n_scKPDue ["_law_m", "_law_deed_here"] (defScope s_scKPDue) := ⟨rfl, rfl, rfl, by decide +kernel, rfl, by decide +kernel, by decide +kernel⟩
abbrev s_scKDue : Stmt := topS 42
abbrev n_scKDue : List Str := ["_law_m", "_law_deed_here", "_law_rows", "_law_word_here", "_law_key", "_law_name_here", "_law_gone", "_law_begin", "_law_end", "_law_amount_here", "_law_time_here"]
theorem scKDue : FnScope n_scKDue ["_law_m", "_law_deed_here"] (defScope s_scKDue) := ⟨rfl, rfl, rfl, by decide +kernel, rfl, by decide +kernel, by decide +kernel⟩
/-! the law's own entries changed -/
abbrev rowsK (rows : List (Str × V)) : List (Key × V) := rows.map fun r => ((Sum.inr r.1 : Key), r.2)
def rowPut (rows : List (Str × V)) (z : Str) (v : V) : List (Str × V) := if z ∈ rows.map (·.1) then rows.map (fun r => if r.1 = z then (r.1, v) else r) else rows ++ [(z, v)]
def entPut (es : List Ent) (e : Ent) : List Ent := if e.key ∈ es.map (·.key) then es.map (fun r => if r.key = e.key then e else r) else es ++ [e]
theorem rows_any {rows : List (Str × V)} {z : Str} : ((rowsK rows).any fun kv => decide (kv.1 = (Sum.inr z : Key))) = true ↔ z ∈ rows.map (·.1) := by
  rw [List.any_eq_true]
  constructor
  · rintro ⟨kv, h1, h2⟩
    obtain ⟨r, hr, rfl⟩ := List.mem_map.mp h1
    have e : (Sum.inr r.1 : Key) = Sum.inr z := of_decide_eq_true h2
    injection e with e
    exact List.mem_map.mpr ⟨r, hr, e⟩
  · intro h
    obtain ⟨r, hr, e⟩ := List.mem_map.mp h
    exact ⟨(Sum.inr r.1, r.2), List.mem_map.mpr ⟨r, hr, rfl⟩, decide_eq_true (by rw [← e])⟩
theorem rows_put {rows : List (Str × V)} {z : Str} {v : V} : putK (rowsK rows) (Sum.inr z) v = rowsK (rowPut rows z v) := by
  unfold putK rowPut rowsK
  by_cases h : z ∈ rows.map (·.1)
  · rw [if_pos (rows_any.mpr h), if_pos h, List.map_map, List.map_map]
    refine List.map_congr_left fun r _ => ?_
    show (if (Sum.inr r.1 : Key) = Sum.inr z then ((Sum.inr r.1 : Key), v) else (Sum.inr r.1, r.2)) = (Sum.inr (if r.1 = z then (r.1, v) else r).1, (if r.1 = z then (r.1, v) else r).2)
    by_cases e : r.1 = z
    · rw [if_pos (by rw [e]), if_pos e]
    · rw [if_neg (fun q => e (by injection q)), if_neg e]
  · rw [if_neg (fun q => h (rows_any.mp q)), if_neg h, List.map_append]
    rfl
theorem rows_drop {rows : List (Str × V)} {z : Str} : dropK (rowsK rows) (Sum.inr z) = rowsK (rows.filter fun r => decide (r.1 ≠ z)) := by
  unfold dropK
  rw [List.filter_map]
  congr 1
  refine List.filter_congr fun r _ => decide_eq_decide.mpr ?_
  exact not_congr ⟨fun q => by injection q, fun q => congrArg Sum.inr q⟩
theorem bw_put {es : List Ent} {e : Ent} : (entPut es e).map bwOf = putR (es.map bwOf) (bwOf e) := by
  have k : (es.map bwOf).map (·.key) = es.map (·.key) := by rw [List.map_map]; rfl
  unfold entPut putR
  rw [k]
  show _ = if e.key ∈ es.map (·.key) then _ else _
  split
  · rw [List.map_map, List.map_map]
    refine List.map_congr_left fun r _ => ?_
    show bwOf (if r.key = e.key then e else r) = if r.key = e.key then bwOf e else bwOf r
    split <;> rfl
  · rw [List.map_append]
    rfl
theorem bw_filter {es : List Ent} {p : Bw → Bool} : (es.filter fun r => p (bwOf r)).map bwOf = (es.map bwOf).filter p := by
  rw [List.filter_map]
  rfl
theorem bw_keys {es : List Ent} : (es.map bwOf).map (·.key) = es.map (·.key) := by rw [List.map_map]; rfl
section
variable {H H' : Hp} {m pr rd : Addr} {ns : List Int} {top wide : Int} {rows rows' : List (Str × V)} {es : List Ent}
theorem EntAt.kt {v : V} {r : Ent} (k : KTu H H') (h : EntAt H v r) : EntAt H' v r := by
  obtain ⟨t, l, e, h1, h2⟩ := h
  exact ⟨t, l, e, k _ _ h1, k _ _ h2⟩
theorem MAt.set (M : MAt H m pr rd ns top wide rows) (rows' : List (Str × V)) : Kp [rd] H (upd H rd (.dK (rowsK rows'))) ∧ KTu H (upd H rd (.dK (rowsK rows'))) ∧ MAt (upd H rd (.dK (rowsK rows'))) m pr rd ns top wide rows' := by
  have kt : KTu H (upd H rd (.dK (rowsK rows'))) := kt_put M.rows (fun xs z => by cases z)
  refine ⟨kp_upd (List.mem_singleton.mpr rfl), kt, ?_, kt _ _ M.room, upd_same, M.len1, M.len8, M.top0, M.top1, M.wid0, M.wid1, M.num, M.ne⟩
  rw [upd_ne (Ne.symm M.ne)]
  exact M.dict
theorem Ents.setAll {e : Ent} {v : V} (he : EntAt H v e) : ∀ {rows : List (Str × V)} {es : List Ent}, Ents H rows es → Ents H (rows.map fun r => if r.1 = e.key then (r.1, v) else r) (es.map fun r => if r.key = e.key then e else r)
  | _, _, .nil => .nil
  | (k, u) :: rows, r :: es, .cons h1 h2 h3 => by
    have ih := Ents.setAll he h3
    rw [List.map_cons, List.map_cons]
    by_cases c : r.key = e.key
    · rw [if_pos c, if_pos (show k = e.key by rw [h1]; exact c)]
      exact .cons (by rw [h1]; exact c) he ih
    · rw [if_neg c, if_neg (show ¬ k = e.key by rw [h1]; exact c)]
      exact .cons h1 h2 ih
theorem Ents.snoc {e : Ent} {v : V} (he : EntAt H v e) : ∀ {rows : List (Str × V)} {es : List Ent}, Ents H rows es → Ents H (rows ++ [(e.key, v)]) (es ++ [e])
  | _, _, .nil => .cons rfl he .nil
  | _, _, .cons h1 h2 h3 => .cons h1 h2 (Ents.snoc he h3)
theorem Ents.put {e : Ent} {v : V} (hE : Ents H rows es) (he : EntAt H v e) : Ents H (rowPut rows e.key v) (entPut es e) := by
  unfold rowPut entPut
  rw [hE.keys]
  split
  · exact hE.setAll he
  · exact hE.snoc he
theorem Ents.drop {z : Str} : ∀ {rows : List (Str × V)} {es : List Ent}, Ents H rows es → Ents H (rows.filter fun r => decide (r.1 ≠ z)) (es.filter fun r => decide (r.key ≠ z))
  | _, _, .nil => .nil
  | (k, u) :: rows, r :: es, .cons h1 h2 h3 => by
    have ih := Ents.drop (z := z) h3
    rw [List.filter_cons, List.filter_cons]
    by_cases c : r.key = z
    · rw [if_neg (by rw [decide_eq_true_eq]; exact fun q => q (by show k = z; rw [h1]; exact c)), if_neg (by rw [decide_eq_true_eq]; exact fun q => q c)]
      exact ih
    · rw [if_pos (decide_eq_true (show k ≠ z by rw [h1]; exact c)), if_pos (decide_eq_true c)]
      exact .cons h1 h2 ih
theorem rows_get (hE : Ents H rows es) (nd : (es.map (·.key)).Nodup) {r : Ent} (hr : r ∈ es) : ∃ T l, valV (rowsK rows) (Sum.inr r.key) = some (.ref T) ∧ H T = some (.tup [.int r.bg, .int r.nd, .ref l]) ∧ H l = some (.tup (r.am.map V.int)) := by
  obtain ⟨j, hj⟩ := List.mem_iff_getElem?.mp hr
  have hjr : j < rows.length := by rw [hE.len]; exact (List.getElem?_eq_some_iff.mp hj).1
  obtain ⟨r', hr', ek, T, l, ev, ht, hl⟩ := hE.get j rows[j].1 rows[j].2 (List.getElem?_eq_getElem hjr)
  rw [hj] at hr'
  cases hr'
  refine ⟨T, l, ?_, ht, hl⟩
  have ky : (rowsK rows).map (·.1) = (es.map (·.key)).map Sum.inr := by
    rw [← hE.keys, List.map_map, List.map_map]
    rfl
  refine valV_get (i := j) (by rw [ky]; exact keys_nd nd) ?_
  rw [List.getElem?_map, List.getElem?_eq_getElem hjr, ← ek, ← ev]
  rfl
theorem rows_none (hE : Ents H rows es) {z : Str} (h : z ∉ es.map (·.key)) : valV (rowsK rows) (Sum.inr z) = none := by
  cases e : valV (rowsK rows) (Sum.inr z) with
  | none => rfl
  | some v =>
    have h1 : ((rowsK rows).any fun kv => decide (kv.1 = (Sum.inr z : Key))) = true := by
      rw [valV_any, e]
      rfl
    rw [rows_any, hE.keys] at h1
    exact absurd h1 h
end
/-- what is told, as a pair -/
def OutAt (H : Hp) (t : Addr) (w : Str) : Out → Prop
  | .no => H t = some (.tup [.str w, .non])
  | .time x => H t = some (.tup [.str w, .int x])
  | .keys zs => ∃ l, H t = some (.tup [.str w, .ref l]) ∧ H l = some (.lst (zs.map V.str))
theorem OutAt.same {H H' : Hp} {t : Addr} {w : Str} {o : Out} (s : Same H H') (h : OutAt H t w o) : OutAt H' t w o := by
  cases o with
  | no => exact s _ _ h
  | time x => exact s _ _ h
  | keys zs =>
    obtain ⟨l, h1, h2⟩ := h
    exact ⟨l, s _ _ h1, s _ _ h2⟩
def ArgOk (ns : List Int) : Deed → Prop
  | .put x => x.b < x.e ∧ x.am.length = ns.length
  | _ => True
def spDueK (p : Deed → Prop) : Sp := fun vs H Q _ => ∃ (m pr rd pd : Addr) (ns : List Int) (top wide : Int) (rows : List (Str × V)) (es : List Ent) (dd : Deed), vs = [.ref m, .ref pd] ∧ p dd ∧ MAt H m pr rd ns top wide rows ∧ Ents H rows es ∧ es.length < 110 ∧ (es.map (·.key)).Nodup ∧ (∀ r ∈ es, r.am.length = ns.length) ∧ DeedAt H pd dd ∧ ArgOk ns dd ∧
  ∀ t w o rs' rows' es' H', DueR ns (es.map bwOf) dd w o rs' → H t = none → OutAt H' t w o → Kp [rd] H H' → MAt H' m pr rd ns top wide rows' → Ents H' rows' es' → es'.map bwOf = rs' → Q (.ref t) H'
def isPut : Deed → Prop
  | .put _ => True
  | _ => False
theorem more_first {ns : List Int} {es : List Ent} {am : List Int} {b e : Int} {ls : List Int} (hl : am.length = ns.length) (lt : b < e) (perm : ls.Perm (edgesOf es)) (so : ls.Pairwise (· ≤ ·)) : IsFirst ns (es.map bwOf) am b e ((b :: ls.filter (within b e)).find? (moreB ns es am)) := by
  have inn : ∀ t ∈ ls.filter (within b e), b < t ∧ t < e := fun t ht => by
    have := (List.mem_filter.mp ht).2
    unfold within at this
    rw [Bool.and_eq_true, decide_eq_true_eq, decide_eq_true_eq] at this
    exact this
  have edge : ∀ t, t ∈ edgesOf es → b < t → t < e → t ∈ b :: ls.filter (within b e) := fun t ht h1 h2 => List.mem_cons_of_mem _ (List.mem_filter.mpr ⟨perm.mem_iff.mpr ht, by unfold within; rw [decide_eq_true h1, decide_eq_true h2]; rfl⟩)
  refine first_law (rs := es.map bwOf) hl lt (List.pairwise_cons.mpr ⟨fun t ht => Int.le_of_lt (inn t ht).1, so.filter _⟩) List.mem_cons_self (fun v hv => ?_) (fun x hx => ?_)
  · rcases List.mem_cons.mp hv with z | z
    · omega
    · have := inn v z
      omega
  · obtain ⟨r, hr, rfl⟩ := List.mem_map.mp hx
    exact ⟨edge _ (List.mem_flatMap.mpr ⟨r, hr, List.mem_cons_self⟩), edge _ (List.mem_flatMap.mpr ⟨r, hr, List.mem_cons_of_mem _ (List.mem_singleton.mpr rfl)⟩)⟩
section
variable {P : Program} {w : World} {K : PySem.W.Frag} {mg : Str → Option Value} {base : Heap}
theorem ok_kpdue {f fR : Addr} {fd fdR : FuncData} {k : Nat} (F : Fun K "_law_put_due" "_law_put_due" s_scKPDue f fd)
    (GR : FnOk P w K mg base CX0 k fR fdR ["_law_m", "_law_begin", "_law_end", "_law_amount_here"] spMore) (mR : mg "_law_first_more" = some (.ref fR)) (kR : PySem.W.keepIn K (.ref fR) = true) (bR : L2.Binds K fdR ["_law_m", "_law_begin", "_law_end", "_law_amount_here"] []) :
    FnOk P w K mg base CX0 (k + 1) f fd ["_law_m", "_law_deed_here"] (spDueK isPut) := by
  refine F.ok scKPDue (fun vs H Q E h => ?_) (fun cdv A outer s H vs Q E hr h => ?_)
  · obtain ⟨m, pr, rd, pd, ns, top, wide, rows, es, dd, rfl, _⟩ := h
    rfl
  · obtain ⟨m, pr, rd, pd, ns, top, wide, rows, es, dd, rfl, hp, M, hE, hl, nd, hla, hD, hA, q⟩ := h
    cases dd with
    | put x =>
      obtain ⟨am, d1, d2⟩ := hD
      obtain ⟨lt, la⟩ := hA
      refine ⟨_, (pss_cons (ps_asg (pv 1) (pg_tup rfl (pgs_cons (pg_name (i := 2) scKPDue.nd rfl (.inl rfl)) (pgs_cons (pg_name (i := 3) scKPDue.nd rfl (.inl rfl)) (pgs_cons (pg_name (i := 4) scKPDue.nd rfl (.inl rfl)) (pgs_cons (pg_name (i := 5) scKPDue.nd rfl (.inl rfl)) (pgs_cons (pg_name (i := 6) scKPDue.nd rfl (.inl rfl)) pgs_nil)))))))
        (pss_cons (ps_if (pt_cmp (pc_din (hu_of hr) (pv 3) (pe_dget (hu_of hr) (pv 0) pe_str (fun _ _ => rfl))))
          (pss_one (ps_ret (pe_tup (pa_cons pe_str (pa_cons pe_non pa_nil)))))
          pss_nil)
        (pss_cons (ps_set (i := 7) scKPDue.nd rfl (.inl rfl) (pe_call GR hr (by rfl) mR kR bR .nil pass0 (pa_cons (pv 0) (pa_cons (pv 4) (pa_cons (pv 5) (pa_cons (pv 6) pa_nil))))))
        (pss_cons (ps_if (pt_cmpR op_notN (pv 7) pe_non (nomark _))
          (pss_one (ps_ret (pe_tup (pa_cons pe_str (pa_cons (pv 7) pa_nil)))))
          pss_nil)
        (pss_cons (ps_dput (hu_of hr) (pe_dget (hu_of hr) (pv 0) pe_str (fun _ _ => rfl)) (pv 3) (pe_tup (pa_cons (pv 4) (pa_cons (pv 5) (pa_cons (pv 6) pa_nil)))) rfl)
        (pss_one (ps_ret (pe_tup (pa_cons pe_str (pa_cons pe_non pa_nil)))))))))), ?_⟩
      refine ⟨_, rfl, pd, _, rfl, SqT.of d1, rfl, _, _, rfl, _, _, rfl, _, _, rfl, _, _, rfl, _, _, rfl, rfl, ?_⟩
      refine ⟨_, rfl, _, rfl, m, .ref rd, rfl, DGet.k (k := .inr "rows") M.dict, rd, _, rfl, DGet.k (k := .inr x.key) M.rows, ?_⟩
      by_cases hk : x.key ∈ es.map (·.key)
      · obtain ⟨r, hr', er⟩ := List.mem_map.mp hk
        obtain ⟨T, l, v1, v2, v3⟩ := rows_get hE nd hr'
        rw [er] at v1
        refine ⟨true, by rw [v1]; rfl, iteT ?_⟩
        refine ⟨by show 2 ≤ sizeLine; decide, fun t nt => ?_⟩
        exact q t "Taken" .no _ rows es _ (.inl ⟨by rw [keysB, bw_keys]; exact hk, rfl, rfl, rfl⟩) nt upd_same (Same.kp _ (same_upd nt)) (M.same (same_upd nt)) (hE.imp fun v r h => h.same (same_upd nt)) rfl
      · refine ⟨false, by rw [rows_none hE hk]; rfl, iteF ?_⟩
        have hk' : x.key ∉ keysB (es.map bwOf) := by rw [keysB, bw_keys]; exact hk
        refine ⟨_, rfl, _, rfl, _, rfl, _, rfl, m, pr, rd, ns, top, wide, rows, es, x.b, x.e, am, x.am, rfl, M, hE, by omega, hla, d2, la, fun H1 ls perm so s1 => ?_⟩
        have fi := more_first (am := x.am) la lt perm so
        have M1 := M.same s1
        have E1 := hE.imp fun v r h => h.same s1
        generalize (x.b :: ls.filter (within x.b x.e)).find? (moreB ns es x.am) = o at fi ⊢
        cases o with
        | some t1 =>
          refine ⟨_, rfl, rfl, true, rfl, iteT ?_⟩
          refine ⟨_, rfl, by show 2 ≤ sizeLine; decide, fun t nt => ?_⟩
          have s2 := s1.trans (same_upd (o := .tup [V.str "TooMuch", oI (some t1)]) nt)
          exact q t "TooMuch" (.time t1) _ rows es _ (.inr ⟨hk', _, fi, rfl, rfl, rfl⟩) (s1.free nt) upd_same (Same.kp _ s2) (M.same s2) (hE.imp fun v r h => h.same s2) rfl
        | none =>
          refine ⟨_, rfl, rfl, false, rfl, iteF ?_⟩
          refine ⟨_, rfl, _, rfl, _, rfl, by show 3 ≤ sizeLine; decide, fun T nT => ?_⟩
          have s2 := s1.trans (same_upd (o := .tup [.int x.b, .int x.e, .ref am]) nT)
          have eT : upd H1 T (.tup [.int x.b, .int x.e, .ref am]) T = some (.tup [.int x.b, .int x.e, .ref am]) := upd_same
          generalize upd H1 T (.tup [.int x.b, .int x.e, .ref am]) = H2 at s2 eT ⊢
          have M2 := M.same s2
          have E2 := hE.imp fun v r h => h.same s2
          refine ⟨_, rfl, m, .ref rd, rfl, DGet.k (k := .inr "rows") M2.dict, _, rfl, rd, _, rfl, DPut.k (k := (Sum.inr x.key : Key)) M2.rows (small63 (by rw [List.length_map, hE.len]; omega)), ?_⟩
          rw [rows_put]
          obtain ⟨k3, t3, M3⟩ := M2.set (rowPut rows x.key (.ref T))
          have he : EntAt H2 (.ref T) ⟨x.key, x.b, x.e, x.am⟩ := ⟨T, am, rfl, eT, s2 _ _ d2⟩
          have E3 := (E2.put he).imp fun v r h => h.kt t3
          refine ⟨by show 2 ≤ sizeLine; decide, fun t nt => ?_⟩
          have s4 := same_upd (o := .tup [V.str "told", .non]) nt
          have tr : t ≠ rd := fun z => by
            rw [z, upd_same] at nt
            cases nt
          have k03 : Kp [rd] H (upd H2 rd (.dK (rowsK (rowPut rows x.key (.ref T))))) := (Same.kp _ s2).trans k3
          exact q t "told" .no _ _ _ _ (.inr ⟨hk', _, fi, rfl, rfl, rfl⟩) (kp_free k03 tr nt) upd_same (kp_new k03 nt) (M3.same s4) (E3.imp fun v r h => h.same s4) bw_put
    | cut z t => exact hp.elim
    | stretch z t => exact hp.elim
    | drop z => exact hp.elim
    | past t => exact hp.elim
end
end My

namespace My
open PySem PySem.Spec PyProof.Rows L2 GX GxR
theorem ents_filter {H : Hp} {p : Str → Bool} : ∀ {rows : List (Str × V)} {es : List Ent}, Ents H rows es → Ents H (rows.filter fun r => p r.1) (es.filter fun r => p r.key)
  | _, _, .nil => .nil
  | (k, u) :: rows, r :: es, .cons h1 h2 h3 => by
    have ih := ents_filter (p := p) h3
    rw [List.filter_cons, List.filter_cons, show p (k, u).1 = p r.key from congrArg p h1]
    split
    · exact .cons h1 h2 ih
    · exact ih
theorem rows_out {rows : List (Str × V)} {zs : List Str} {z : Str} : (rows.filter fun r => decide (r.1 ∉ zs)).filter (fun r => decide (r.1 ≠ z)) = rows.filter fun r => decide (r.1 ∉ zs ++ [z]) := by
  rw [List.filter_filter]
  refine List.filter_congr fun x _ => ?_
  by_cases e : x.1 = z <;> by_cases e2 : x.1 ∈ zs <;> simp [e, e2]
section
variable {P : Program} {w : World} {K : PySem.W.Frag} {mg : Str → Option Value} {base : Heap}
set_option maxHeartbeats 4000000 in
theorem ok_kdue {f fR fU : Addr} {fd fdR fdU : FuncData} {k : Nat} (F : Fun K "_law_due" "_law_due" s_scKDue f fd) (X : Txt mg) (mSorted : mg "sorted" = none)
    (GR : FnOk P w K mg base CX0 k fR fdR ["_law_m", "_law_begin", "_law_end", "_law_amount_here"] spMore) (mR : mg "_law_first_more" = some (.ref fR)) (kR : PySem.W.keepIn K (.ref fR) = true) (bR : L2.Binds K fdR ["_law_m", "_law_begin", "_law_end", "_law_amount_here"] [])
    (GU : FnOk P w K mg base CX0 k fU fdU ["_law_m", "_law_deed_here"] (spDueK isPut)) (mU : mg "_law_put_due" = some (.ref fU)) (kU : PySem.W.keepIn K (.ref fU) = true) (bU : L2.Binds K fdU ["_law_m", "_law_deed_here"] []) :
    FnOk P w K mg base CX0 (k + 1) f fd ["_law_m", "_law_deed_here"] (spDueK fun _ => True) := by
  refine F.ok scKDue (fun vs H Q E h => ?_) (fun cdv A outer s H vs Q E hr h => ?_)
  · obtain ⟨m, pr, rd, pd, ns, top, wide, rows, es, dd, rfl, _⟩ := h
    rfl
  · obtain ⟨m, pr, rd, pd, ns, top, wide, rows, es, dd, rfl, hp, M, hE, hl, nd, hla, hD, hA, q⟩ := h
    refine ⟨_, (pss_cons (ps_set (i := 2) scKDue.nd rfl (.inr rfl) (pe_dget (hu_of hr) (pv 0) pe_str (fun _ _ => rfl)))
      (pss_cons (ps_asg (pe_slice sl_tupA (pv 1) po_none (po_some pe_int)) (pg_tup rfl (pgs_cons (pg_name (i := 3) scKDue.nd rfl (.inl rfl)) (pgs_cons (pg_name (i := 4) scKDue.nd rfl (.inr rfl)) pgs_nil))))
      (pss_cons (ps_if (pt_cmpR op_eq (pv 3) pe_str (nomark _))
        (pss_cons (ps_set (i := 6) scKDue.nd rfl (.inl rfl) (pe_callB (SX.cr_sortSk hr.units) (by rfl) mSorted (by decide +kernel) (pa_cons (pe_lock (pe_lc (own := [("_law_name_here", 5)]) (g := (gName 5)) rfl scKDue.nd (pi_keys (pv 2)) (blkOk_by (own := [("_law_name_here", 5)]) (N := n_scKDue) (sc := defScope s_scKDue) (by decide +kernel)) (fun _ _ _ _ _ => (pg_name (i := 5) scKDue.nd rfl (.inl rfl))) (fun _ _ _ _ _ => pts_one (pt_cmpR op_le (pe_ix (r := rIxT K) ix_tup (pe_dget (hu_of hr) (pv 2) (pv 5) (fun _ _ => rfl)) pe_int (fun _ _ => rfl)) (pv 4) (nomark _))) (fun _ _ _ _ _ => (pv 5)))) pa_nil)))
        (C8.pss_cut (ps_for PassesOwn.never rfl (pi_list (pv 6)) (pg_name (i := 5) scKDue.nd rfl (.inl rfl))
          (pss_one (ps_expr (pe_dpop1 (pv 2) (pv 5) ⟨by rfl, by rfl, by rfl, by rfl⟩))))
        (pss_one (ps_ret (pe_tup (pa_cons pe_str (pa_cons (pv 6) pa_nil)))))))
        pss_nil)
      (pss_cons (ps_if (pt_cmpR op_eq (pv 3) pe_str (nomark _))
        (pss_one (ps_ret (pe_call GU hr (by rfl) mU kU bU .nil pass0 (pa_cons (pv 0) (pa_cons (pv 1) pa_nil)))))
        pss_nil)
      (pss_cons (ps_if (pt_cmp (pc_dnotin (hu_of hr) (pv 4) (pv 2)))
        (pss_one (ps_ret (pe_tup (pa_cons pe_str (pa_cons pe_non pa_nil)))))
        pss_nil)
      (pss_cons (ps_asg (pe_dget (hu_of hr) (pv 2) (pv 4) (fun _ _ => rfl)) (pg_tup rfl (pgs_cons (pg_name (i := 7) scKDue.nd rfl (.inl rfl)) (pgs_cons (pg_name (i := 8) scKDue.nd rfl (.inl rfl)) (pgs_cons (pg_name (i := 9) scKDue.nd rfl (.inl rfl)) pgs_nil)))))
      (C8.pss_cut (ps_if (PW.pt (pw_or (pt_cmpR op_eq (pv 3) pe_str (nomark _)) (pw_or1 (PW.pt (pw_and (pt_cmpR op_eq (pv 3) pe_str (nomark _)) (pw_and1 (pt_cmpR op_ge (pv 7) (pe_ix ix_tup (pv 1) pe_int (fun _ _ => rfl)) (nomark _))))))))
        (pss_one (ps_expr (pe_dpop1 (pv 2) (pv 4) ⟨by rfl, by rfl, by rfl, by rfl⟩)))
        (pss_one (ps_if (pt_cmpR op_eq (pv 3) pe_str (nomark _))
          (pss_one (ps_dput (hu_of hr) (pv 2) (pv 4) (pe_tup (pa_cons (pv 7) (pa_cons (pe_callB (call_min2 rfl) (by rfl) X.min (by decide +kernel) (pa_cons (pv 8) (pa_cons (pe_ix ix_tup (pv 1) pe_int (fun _ _ => rfl)) pa_nil))) (pa_cons (pv 9) pa_nil)))) rfl))
          (pss_one (ps_if (pt_cmpR op_lt (pv 8) (pe_ix ix_tup (pv 1) pe_int (fun _ _ => rfl)) (nomark _))
            (pss_cons (ps_set (i := 10) scKDue.nd rfl (.inl rfl) (pe_call GR hr (by rfl) mR kR bR .nil pass0 (pa_cons (pv 0) (pa_cons (pv 8) (pa_cons (pe_ix ix_tup (pv 1) pe_int (fun _ _ => rfl)) (pa_cons (pv 9) pa_nil))))))
            (pss_cons (ps_if (pt_cmpR op_notN (pv 10) pe_non (nomark _))
              (pss_one (ps_ret (pe_tup (pa_cons pe_str (pa_cons (pv 10) pa_nil)))))
              pss_nil)
            (pss_one (ps_dput (hu_of hr) (pv 2) (pv 4) (pe_tup (pa_cons (pv 7) (pa_cons (pe_ix ix_tup (pv 1) pe_int (fun _ _ => rfl)) (pa_cons (pv 9) pa_nil)))) rfl))))
            pss_nil)))))
      (pss_one (ps_ret (pe_tup (pa_cons pe_str (pa_cons pe_non pa_nil)))))))))))), ?_⟩
    refine ⟨_, rfl, m, .ref rd, rfl, DGet.k (k := .inr "rows") M.dict, ?_⟩
    refine ⟨_, rfl, 2, rfl, ?_⟩
    have ndb : ((es.map bwOf).map (·.key)).Nodup := by rw [bw_keys]; exact nd
    -- the last return
    have told : ∀ (rs' : List Bw) (H' : Hp), DueR ns (es.map bwOf) dd "told" .no rs' → Kp [rd] H H' → ∀ rows' es', MAt H' m pr rd ns top wide rows' → Ents H' rows' es' → es'.map bwOf = rs' → ∀ t, H' t = none → Q (.ref t) (upd H' t (.tup [.str "told", .non])) := fun rs' H' due kp rows' es' M' E' eb t nt => by
      have tr : t ≠ rd := fun z => by
        rw [z, M'.rows] at nt
        cases nt
      exact q t "told" .no rs' rows' es' _ due (kp_free kp tr nt) upd_same (kp_new kp nt) (M'.same (same_upd nt)) (E'.imp fun v r h => h.same (same_upd nt)) eb
    -- no such key
    have noKey : ∀ (H1 : Hp), Same H H1 → DueR ns (es.map bwOf) dd "NoKey" .no (es.map bwOf) → ∀ t, H1 t = none → Q (.ref t) (upd H1 t (.tup [.str "NoKey", .non])) := fun H1 s1 due t nt =>
      q t "NoKey" .no _ rows es _ due (s1.free nt) upd_same (Same.kp _ (s1.trans (same_upd nt))) (M.same (s1.trans (same_upd nt))) (hE.imp fun v r h => h.same (s1.trans (same_upd nt))) rfl
    have inK : ∀ {z : Str}, z ∉ es.map (·.key) → z ∉ keysB (es.map bwOf) := fun {z} h => by rw [keysB, bw_keys]; exact h
    -- an entry popped
    have popd : ∀ {z : Str} (H1 : Hp), Same H H1 → MAt (upd H1 rd (.dK (rowsK (rows.filter fun r => decide (r.1 ≠ z))))) m pr rd ns top wide (rows.filter fun r => decide (r.1 ≠ z)) ∧ Kp [rd] H (upd H1 rd (.dK (rowsK (rows.filter fun r => decide (r.1 ≠ z))))) ∧ Ents (upd H1 rd (.dK (rowsK (rows.filter fun r => decide (r.1 ≠ z))))) (rows.filter fun r => decide (r.1 ≠ z)) (es.filter fun r => decide (r.key ≠ z)) ∧ (es.filter fun r => decide (r.key ≠ z)).map bwOf = (es.map bwOf).filter fun y => decide (y.key ≠ z) := fun {z} H1 s1 => by
      obtain ⟨k2, t2, M2⟩ := (M.same s1).set (rows.filter fun r => decide (r.1 ≠ z))
      exact ⟨M2, (Same.kp _ s1).trans k2, ((hE.imp fun v r h => h.same s1).drop (z := z)).imp fun v r h => h.kt t2, bw_filter (p := fun y => decide (y.key ≠ z))⟩
    -- an entry set anew
    have setd : ∀ {r : Ent} {T l : Addr} {e' : Int} (H1 : Hp), Same H H1 → H1 T = some (.tup [.int r.bg, .int e', .ref l]) → H1 l = some (.tup (r.am.map V.int)) →
        ∃ H2, H2 = upd H1 rd (.dK (rowsK (rowPut rows r.key (.ref T)))) ∧ MAt H2 m pr rd ns top wide (rowPut rows r.key (.ref T)) ∧ Kp [rd] H H2 ∧ Ents H2 (rowPut rows r.key (.ref T)) (entPut es ⟨r.key, r.bg, e', r.am⟩) ∧ (entPut es ⟨r.key, r.bg, e', r.am⟩).map bwOf = putR (es.map bwOf) ⟨r.key, r.bg, e', r.am⟩ := fun {r T l e'} H1 s1 h1 h2 => by
      obtain ⟨k2, t2, M2⟩ := (M.same s1).set (rowPut rows r.key (.ref T))
      refine ⟨_, rfl, M2, (Same.kp _ s1).trans k2, ?_, bw_put⟩
      exact ((hE.imp fun v r h => h.same s1).put (e := ⟨r.key, r.bg, e', r.am⟩) ⟨T, l, rfl, h1, h2⟩).imp fun v r h => h.kt t2
    cases dd with
    | put x =>
      obtain ⟨am, d1, d2⟩ := hD
      refine ⟨pd, _, rfl, SqT.of d1, fun e => absurd e (by show ¬ (HT.sIx 5 0 none = 0 ∧ HT.sIx 5 5 (some 2) = 5); decide), fun _ p2 n2 => ?_⟩
      have s1 : Same H (upd H p2 (.tup [V.str "put", .str x.key])) := same_upd n2
      refine ⟨p2, _, rfl, SqT.of upd_same, rfl, _, _, rfl, _, _, rfl, rfl, ?_⟩
      refine ⟨_, rfl, rfl, false, tst_ne (by decide +kernel), iteF ?_⟩
      refine ⟨_, rfl, rfl, true, tst_eq, iteT ?_⟩
      refine ⟨_, rfl, _, rfl, m, pr, rd, pd, ns, top, wide, rows, es, .put x, rfl, trivial, M.same s1, hE.imp (fun v r h => h.same s1), hl, nd, hla, ⟨am, s1 _ _ d1, s1 _ _ d2⟩, hA, fun t w o rs' rows' es' H' due nt out kp M' E' eb => ?_⟩
      exact q t w o rs' rows' es' H' due (s1.free nt) out ((Same.kp _ s1).trans kp) M' E' eb
    | cut z t =>
      have d1 : H pd = some (.tup [.str "cut", .str z, .int t]) := hD
      refine ⟨pd, _, rfl, SqT.of d1, fun e => absurd e (by show ¬ (HT.sIx 3 0 none = 0 ∧ HT.sIx 3 3 (some 2) = 3); decide), fun _ p2 n2 => ?_⟩
      have s1 : Same H (upd H p2 (.tup [V.str "cut", .str z])) := same_upd n2
      refine ⟨p2, _, rfl, SqT.of upd_same, rfl, _, _, rfl, _, _, rfl, rfl, ?_⟩
      change (_ : TS) _ _ (upd H p2 (.tup [V.str "cut", .str z]))
      generalize upd H p2 (.tup [V.str "cut", .str z]) = H1 at s1 ⊢
      refine ⟨_, rfl, rfl, false, tst_ne (by decide +kernel), iteF ?_⟩
      refine ⟨_, rfl, rfl, false, tst_ne (by decide +kernel), iteF ?_⟩
      have M1 := M.same s1
      refine ⟨_, rfl, _, rfl, rd, _, rfl, DGet.k (k := .inr z) M1.rows, ?_⟩
      by_cases hk : z ∈ es.map (·.key)
      · obtain ⟨r, hr', er⟩ := List.mem_map.mp hk
        obtain ⟨T, l, v1, v2, v3⟩ := rows_get hE nd hr'
        subst er
        refine ⟨false, by rw [v1]; rfl, iteF ?_⟩
        refine ⟨_, rfl, _, rfl, rd, .ref T, rfl, dgetR (Rd.of M1.rows) v1, T, _, rfl, SqT.of (s1 _ _ v2), rfl, _, _, rfl, _, _, rfl, _, _, rfl, rfl, ?_⟩
        have mem : bwOf r ∈ es.map bwOf := List.mem_map.mpr ⟨r, hr', rfl⟩
        refine ⟨fun σ H' => ∃ rs' rows' es', DueR ns (es.map bwOf) (.cut r.key t) "told" .no rs' ∧ Kp [rd] H H' ∧ MAt H' m pr rd ns top wide rows' ∧ Ents H' rows' es' ∧ es'.map bwOf = rs', ?_, fun σ H' hm => ?_⟩
        · refine ⟨_, rfl, rfl, false, tst_ne (by decide +kernel), iteF ?_⟩
          refine ⟨_, rfl, rfl, true, tst_eq, iteT ?_⟩
          refine ⟨_, rfl, _, rfl, pd, _, 2, .int t, rfl, rfl, SqT.of (s1 _ _ d1), rfl, _, _, rfl, rfl, _, rfl, ite2 (fun g => ?_) (fun g => ?_)⟩
          · have g' : t ≤ r.bg := of_decide_eq_true g
            obtain ⟨a1, a2, a3, a4⟩ := popd (z := r.key) H1 s1
            refine ⟨_, rfl, rd, rfl, .inl ⟨_, Rd.of M1.rows⟩, _, rfl, _, Sum.inr r.key, .ref T, M1.rows, rfl, v1, ?_⟩
            rw [rows_drop]
            exact ⟨_, _, _, .inr ⟨bwOf r, mem, rfl, rfl, rfl, (if_pos g').symm⟩, a2, a1, a3, a4⟩
          · have g' : ¬ t ≤ r.bg := fun z => g (decide_eq_true z)
            refine ⟨_, rfl, rfl, true, tst_eq, iteT ?_⟩
            refine ⟨_, rfl, _, rfl, _, rfl, pd, _, 2, .int t, rfl, rfl, SqT.of (s1 _ _ d1), rfl, _, _, rfl, _, rfl, by show 3 ≤ sizeLine; decide, fun T2 nT2 => ?_⟩
            have s2 := s1.trans (same_upd (o := .tup [.int r.bg, .int (if t < r.nd then t else r.nd), .ref l]) nT2)
            have e2 : upd H1 T2 (.tup [.int r.bg, .int (if t < r.nd then t else r.nd), .ref l]) T2 = some (.tup [.int r.bg, .int (if t < r.nd then t else r.nd), .ref l]) := upd_same
            refine ⟨_, rfl, _, rfl, rd, _, rfl, DPut.k (k := (Sum.inr r.key : Key)) (M.same s2).rows (small63 (by rw [List.length_map, hE.len]; omega)), ?_⟩
            obtain ⟨H3, eH, a1, a2, a3, a4⟩ := setd (r := r) _ s2 e2 (s2 _ _ v3)
            rw [rows_put, ← eH]
            refine ⟨_, _, _, .inr ⟨bwOf r, mem, rfl, rfl, rfl, rfl⟩, a2, a1, a3, ?_⟩
            rw [a4]
            show _ = if t ≤ r.bg then _ else if t < r.nd then putR (es.map bwOf) ⟨r.key, r.bg, t, r.am⟩ else es.map bwOf
            rw [if_neg g']
            by_cases c : t < r.nd
            · rw [if_pos c, if_pos c]
            · rw [if_neg c, if_neg c]
              exact putR_self (y := bwOf r) ndb mem
        · obtain ⟨rs', rows', es', h1, h2, h3, h4, h5⟩ := hm
          exact ⟨by show 2 ≤ sizeLine; decide, fun t nt => told rs' H' h1 h2 rows' es' h3 h4 h5 t nt⟩
      · refine ⟨true, by rw [rows_none hE hk]; rfl, iteT ?_⟩
        exact ⟨by show 2 ≤ sizeLine; decide, fun t nt => noKey H1 s1 (.inl ⟨inK hk, rfl, rfl, rfl⟩) t nt⟩
    | stretch z t =>
      have d1 : H pd = some (.tup [.str "stretch", .str z, .int t]) := hD
      refine ⟨pd, _, rfl, SqT.of d1, fun e => absurd e (by show ¬ (HT.sIx 3 0 none = 0 ∧ HT.sIx 3 3 (some 2) = 3); decide), fun _ p2 n2 => ?_⟩
      have s1 : Same H (upd H p2 (.tup [V.str "stretch", .str z])) := same_upd n2
      refine ⟨p2, _, rfl, SqT.of upd_same, rfl, _, _, rfl, _, _, rfl, rfl, ?_⟩
      change (_ : TS) _ _ (upd H p2 (.tup [V.str "stretch", .str z]))
      generalize upd H p2 (.tup [V.str "stretch", .str z]) = H1 at s1 ⊢
      refine ⟨_, rfl, rfl, false, tst_ne (by decide +kernel), iteF ?_⟩
      refine ⟨_, rfl, rfl, false, tst_ne (by decide +kernel), iteF ?_⟩
      have M1 := M.same s1
      refine ⟨_, rfl, _, rfl, rd, _, rfl, DGet.k (k := .inr z) M1.rows, ?_⟩
      by_cases hk : z ∈ es.map (·.key)
      · obtain ⟨r, hr', er⟩ := List.mem_map.mp hk
        obtain ⟨T, l, v1, v2, v3⟩ := rows_get hE nd hr'
        subst er
        refine ⟨false, by rw [v1]; rfl, iteF ?_⟩
        refine ⟨_, rfl, _, rfl, rd, .ref T, rfl, dgetR (Rd.of M1.rows) v1, T, _, rfl, SqT.of (s1 _ _ v2), rfl, _, _, rfl, _, _, rfl, _, _, rfl, rfl, ?_⟩
        have mem : bwOf r ∈ es.map bwOf := List.mem_map.mpr ⟨r, hr', rfl⟩
        refine ⟨fun σ H' => ∃ rs' rows' es', DueR ns (es.map bwOf) (.stretch r.key t) "told" .no rs' ∧ Kp [rd] H H' ∧ MAt H' m pr rd ns top wide rows' ∧ Ents H' rows' es' ∧ es'.map bwOf = rs', ?_, fun σ H' hm => ?_⟩
        · refine ⟨_, rfl, rfl, false, tst_ne (by decide +kernel), iteF ?_⟩
          refine ⟨_, rfl, rfl, false, tst_ne (by decide +kernel), iteF (iteF ?_)⟩
          refine ⟨_, rfl, rfl, false, tst_ne (by decide +kernel), iteF ?_⟩
          refine ⟨_, rfl, _, rfl, pd, _, 2, .int t, rfl, rfl, SqT.of (s1 _ _ d1), rfl, _, _, rfl, rfl, _, rfl, ite2 (fun g => ?_) (fun g => ?_)⟩
          · have g' : r.nd < t := of_decide_eq_true g
            refine ⟨_, rfl, _, rfl, _, rfl, pd, _, 2, .int t, rfl, rfl, SqT.of (s1 _ _ d1), rfl, _, rfl, m, pr, rd, ns, top, wide, rows, es, r.nd, t, l, r.am, rfl, M1, hE.imp (fun v r h => h.same s1), by omega, hla, s1 _ _ v3, hla r hr', fun H2 ls perm so s2 => ?_⟩
            have fi := more_first (am := r.am) (hla r hr') g' perm so
            have s02 := s1.trans s2
            generalize (r.nd :: ls.filter (within r.nd t)).find? (moreB ns es r.am) = o at fi ⊢
            cases o with
            | some t1 =>
              refine ⟨_, rfl, rfl, true, rfl, iteT ?_⟩
              refine ⟨_, rfl, by show 2 ≤ sizeLine; decide, fun tt nt => ?_⟩
              have s3 := s02.trans (same_upd (o := .tup [V.str "TooMuch", oI (some t1)]) nt)
              exact q tt "TooMuch" (.time t1) _ rows es _ (.inr ⟨bwOf r, mem, rfl, .inl ⟨g', _, fi, rfl, rfl, rfl⟩⟩) (s02.free nt) upd_same (Same.kp _ s3) (M.same s3) (hE.imp fun v r h => h.same s3) rfl
            | none =>
              refine ⟨_, rfl, rfl, false, rfl, iteF ?_⟩
              refine ⟨_, rfl, _, rfl, pd, _, 2, .int t, rfl, rfl, SqT.of (s02 _ _ d1), rfl, _, rfl, by show 3 ≤ sizeLine; decide, fun T2 nT2 => ?_⟩
              have s3 := s02.trans (same_upd (o := .tup [.int r.bg, .int t, .ref l]) nT2)
              have e3 : upd H2 T2 (.tup [.int r.bg, .int t, .ref l]) T2 = some (.tup [.int r.bg, .int t, .ref l]) := upd_same
              refine ⟨_, rfl, _, rfl, rd, _, rfl, DPut.k (k := (Sum.inr r.key : Key)) (M.same s3).rows (small63 (by rw [List.length_map, hE.len]; omega)), ?_⟩
              obtain ⟨H3, eH, a1, a2, a3, a4⟩ := setd (r := r) _ s3 e3 (s3 _ _ v3)
              rw [rows_put, ← eH]
              exact ⟨_, _, _, .inr ⟨bwOf r, mem, rfl, .inl ⟨g', _, fi, rfl, rfl, rfl⟩⟩, a2, a1, a3, a4⟩
          · exact ⟨_, rows, es, .inr ⟨bwOf r, mem, rfl, .inr ⟨fun z => g (decide_eq_true z), rfl, rfl, rfl⟩⟩, Same.kp _ s1, M1, hE.imp (fun v r h => h.same s1), rfl⟩
        · obtain ⟨rs', rows', es', h1, h2, h3, h4, h5⟩ := hm
          exact ⟨by show 2 ≤ sizeLine; decide, fun t nt => told rs' H' h1 h2 rows' es' h3 h4 h5 t nt⟩
      · refine ⟨true, by rw [rows_none hE hk]; rfl, iteT ?_⟩
        exact ⟨by show 2 ≤ sizeLine; decide, fun t nt => noKey H1 s1 (.inl ⟨inK hk, rfl, rfl, rfl⟩) t nt⟩
    | drop z =>
      have d1 : H pd = some (.tup [.str "drop", .str z]) := hD
      refine ⟨pd, _, rfl, SqT.of d1, fun _ => ?_, fun e => absurd (by show (HT.sIx 2 0 none = 0 ∧ HT.sIx 2 2 (some 2) = 2); decide) e⟩
      refine ⟨pd, _, rfl, SqT.of d1, rfl, _, _, rfl, _, _, rfl, rfl, ?_⟩
      refine ⟨_, rfl, rfl, false, tst_ne (by decide +kernel), iteF ?_⟩
      refine ⟨_, rfl, rfl, false, tst_ne (by decide +kernel), iteF ?_⟩
      refine ⟨_, rfl, _, rfl, rd, _, rfl, DGet.k (k := .inr z) M.rows, ?_⟩
      by_cases hk : z ∈ es.map (·.key)
      · obtain ⟨r, hr', er⟩ := List.mem_map.mp hk
        obtain ⟨T, l, v1, v2, v3⟩ := rows_get hE nd hr'
        rw [er] at v1
        refine ⟨false, by rw [v1]; rfl, iteF ?_⟩
        refine ⟨_, rfl, _, rfl, rd, .ref T, rfl, dgetR (Rd.of M.rows) v1, T, _, rfl, SqT.of v2, rfl, _, _, rfl, _, _, rfl, _, _, rfl, rfl, ?_⟩
        refine ⟨fun σ H' => ∃ rs' rows' es', DueR ns (es.map bwOf) (.drop z) "told" .no rs' ∧ Kp [rd] H H' ∧ MAt H' m pr rd ns top wide rows' ∧ Ents H' rows' es' ∧ es'.map bwOf = rs', ?_, fun σ H' hm => ?_⟩
        · refine ⟨_, rfl, rfl, true, tst_eq, iteT (iteT ?_)⟩
          obtain ⟨a1, a2, a3, a4⟩ := popd (z := z) H (Same.refl _)
          refine ⟨_, rfl, rd, rfl, .inl ⟨_, Rd.of M.rows⟩, _, rfl, _, Sum.inr z, .ref T, M.rows, rfl, v1, ?_⟩
          rw [rows_drop]
          exact ⟨_, _, _, .inr ⟨by rw [keysB, bw_keys]; exact hk, rfl, rfl, rfl⟩, a2, a1, a3, a4⟩
        · obtain ⟨rs', rows', es', h1, h2, h3, h4, h5⟩ := hm
          exact ⟨by show 2 ≤ sizeLine; decide, fun t nt => told rs' H' h1 h2 rows' es' h3 h4 h5 t nt⟩
      · refine ⟨true, by rw [rows_none hE hk]; rfl, iteT ?_⟩
        exact ⟨by show 2 ≤ sizeLine; decide, fun t nt => noKey H (Same.refl _) (.inl ⟨inK hk, rfl, rfl, rfl⟩) t nt⟩
    | past t =>
      have d1 : H pd = some (.tup [.str "past", .int t]) := hD
      refine ⟨pd, _, rfl, SqT.of d1, fun _ => ?_, fun e => absurd (by show (HT.sIx 2 0 none = 0 ∧ HT.sIx 2 2 (some 2) = 2); decide) e⟩
      refine ⟨pd, _, rfl, SqT.of d1, rfl, _, _, rfl, _, _, rfl, rfl, ?_⟩
      refine ⟨_, rfl, rfl, true, tst_eq, iteT ?_⟩
      -- the keys of those that are over
      refine ⟨rd, _, M.rows, trivial, fun od => ?_⟩
      have kd : Kp [rd] H (upd H rd (.frz od (.dK (rowsK rows)))) := kp_lock
      have ktd : KTu H (upd H rd (.frz od (.dK (rowsK rows)))) := kt_put M.rows (fun xs z => by cases z)
      have ed1 : upd H rd (.frz od (.dK (rowsK rows))) rd = some (.frz od (.dK (rowsK rows))) := upd_same
      have Rd1 : ∀ {H' : Hp}, H' rd = some (.frz od (.dK (rowsK rows))) → Rd H' rd (.dK (rowsK rows)) := fun h => .inr ⟨od, h⟩
      generalize upd H rd (.frz od (.dK (rowsK rows))) = H1 at kd ktd ed1 ⊢
      refine ⟨_, rfl, rd, od, rfl, .inl ⟨_, ed1, fun D nD => ?_⟩⟩
      have Drd : D ≠ rd := fun z => by
        rw [z, ed1] at nD
        cases nD
      refine lc_it walk_keys (fun i H' => Same H1 H' ∧ H' D = some (.lst ((((es.take i).filter fun r => decide (r.nd ≤ t)).map (·.key)).map V.str)))
        ⟨same_upd nD, upd_same⟩ (fun i H' _ p => p.1 _ _ ed1) (fun i x H2o H2 hi p y => ?_) (fun H2 p => ?_)
      · obtain ⟨p1, p2⟩ := p
        obtain ⟨rfl, key, v, hkv, rfl⟩ := y
        have hi' : i < rows.length := by rw [List.length_map] at hi; exact hi
        rw [List.getElem?_map, List.getElem?_eq_getElem hi'] at hkv
        obtain ⟨r, hr2, ek, _⟩ := hE.get i rows[i].1 rows[i].2 (List.getElem?_eq_getElem hi')
        have hr' : r ∈ es := List.mem_of_getElem? hr2
        obtain ⟨T, l, v1, v2, v3⟩ := rows_get hE nd hr'
        have ekey : key = Sum.inr r.key := by
          have := congrArg Prod.fst (Option.some.inj hkv)
          exact this.symm.trans (congrArg Sum.inr ek)
        subst ekey
        have tk : (es.take (i + 1)).filter (fun r => decide (r.nd ≤ t)) = (es.take i).filter (fun r => decide (r.nd ≤ t)) ++ (if decide (r.nd ≤ t) = true then [r] else []) := by
          rw [List.take_add_one, hr2, List.filter_append]
          congr 1
          show List.filter _ [r] = _
          rw [List.filter_cons]
          rfl
        refine ⟨rfl, ?_⟩
        refine ⟨_, rfl, _, rfl, rd, .ref T, rfl, dgetR (Rd1 (p1 _ _ ed1)) v1, T, _, 1, .int r.nd, rfl, rfl, SqT.of (p1 _ _ (ktd _ _ v2)), rfl, _, rfl, _, _, rfl, rfl, _, rfl, ite2 (fun g => ?_) (fun g => ?_)⟩
        · refine ⟨_, rfl, _, p2, ?_, same_put p1 nD, ?_⟩
          · have := List.length_filter_le (fun r : Ent => decide (r.nd ≤ t)) (es.take i)
            rw [List.length_take] at this
            rw [List.length_map, List.length_map]
            exact small63 (by omega)
          · rw [upd_same, tk, if_pos g, List.map_append, List.map_append]
            rfl
        · refine ⟨p1, ?_⟩
          rw [tk, if_neg g, List.append_nil]
          exact p2
      obtain ⟨p1, p2⟩ := p
      have lr : (rowsK rows).length = es.length := by rw [List.length_map, hE.len]
      rw [lr, List.take_length] at p2
      refine ⟨p1 _ _ ed1, ?_⟩
      have s3 : Same H (upd H2 rd (.dK (rowsK rows))) := unlock_same M.rows (kd.trans (Same.kp _ p1))
      have nDH : H D = none := kp_free kd Drd nD
      have e3 : upd H2 rd (.dK (rowsK rows)) D = some (.lst (((es.filter fun r => decide (r.nd ≤ t)).map (·.key)).map V.str)) := by
        rw [upd_ne Drd]
        exact p2
      generalize upd H2 rd (.dK (rowsK rows)) = H3 at s3 e3 ⊢
      have lf := List.length_filter_le (fun r : Ent => decide (r.nd ≤ t)) es
      refine ⟨D, _, rfl, SqL.of e3, by rw [List.length_map]; omega, fun zs pz pm so npz => ?_⟩
      have s4 := s3.trans (same_upd (o := .lst (zs.map V.str)) npz)
      have e4 : upd H3 pz (.lst (zs.map V.str)) pz = some (.lst (zs.map V.str)) := upd_same
      have nz : H pz = none := s3.free npz
      generalize upd H3 pz (.lst (zs.map V.str)) = H4 at s4 e4 ⊢
      have M4 := M.same s4
      have E4 := hE.imp fun v r h => h.same s4
      have ndz : zs.Nodup := pm.nodup_iff.mpr (nd.sublist (List.filter_sublist.map _))
      have inz : ∀ z ∈ zs, ∃ r ∈ es, r.key = z := fun z hz => by
        obtain ⟨r, hr', e⟩ := List.mem_map.mp (pm.mem_iff.mp hz)
        exact ⟨r, (List.mem_filter.mp hr').1, e⟩
      have pzr : pz ≠ rd := (ne_of_none M.rows nz).symm
      refine ⟨fun σ H' => σ[6]? = some (some (V.ref pz)) ∧ Kp [rd] H H' ∧ H' pz = some (.lst (zs.map V.str)) ∧ MAt H' m pr rd ns top wide (rows.filter fun r => decide (r.1 ∉ zs)) ∧ Ents H' (rows.filter fun r => decide (r.1 ∉ zs)) (es.filter fun r => decide (r.key ∉ zs)), ?_, fun σ H5 hm => ?_⟩
      · refine ⟨_, rfl, pz, rfl, ⟨_, SqL.of e4⟩, ?_⟩
        refine for_list (xs := zs.map V.str) (fun i σ H' => ∃ y5 : Option V, σ = [some (.ref m), some (.ref pd), some (.ref rd), some (.str "past"), some (.int t), y5, some (.ref pz), none, none, none, none] ∧ Kp [rd] H H' ∧ H' pz = some (.lst (zs.map V.str)) ∧ MAt H' m pr rd ns top wide (rows.filter fun r => decide (r.1 ∉ zs.take i)) ∧ Ents H' (rows.filter fun r => decide (r.1 ∉ zs.take i)) (es.filter fun r => decide (r.key ∉ zs.take i)))
          ⟨none, rfl, Same.kp _ s4, e4, ?_, ?_⟩ (fun i σ H' _ p => ?_) (fun i v σ H5 hv p => ?_) (fun σ H5 p => ?_)
        · have e0 : (rows.filter fun r => decide (r.1 ∉ zs.take 0)) = rows := List.filter_eq_self.mpr fun x _ => by simp
          rw [e0]
          exact M4
        · have e0 : (rows.filter fun r => decide (r.1 ∉ zs.take 0)) = rows := List.filter_eq_self.mpr fun x _ => by simp
          have e1 : (es.filter fun r => decide (r.key ∉ zs.take 0)) = es := List.filter_eq_self.mpr fun x _ => by simp
          rw [e0, e1]
          exact E4
        · obtain ⟨_, _, _, h, _⟩ := p
          exact SqL.of h
        · obtain ⟨y5, rfl, k5, e5, M5, E5⟩ := p
          obtain ⟨z, hz, rfl⟩ := map_get hv
          obtain ⟨r, hr', er⟩ := inz z (List.mem_of_getElem? hz)
          have nin : z ∉ zs.take i := fun hm => by
            obtain ⟨j, hj⟩ := List.mem_iff_getElem?.mp hm
            rw [List.getElem?_take] at hj
            split at hj
            · rename_i lt
              obtain ⟨a1, b1⟩ := List.getElem?_eq_some_iff.mp hj
              obtain ⟨a2, b2⟩ := List.getElem?_eq_some_iff.mp hz
              exact List.pairwise_iff_getElem.mp ndz j i a1 a2 lt (by rw [b1, b2])
            · cases hj
          have hr5 : r ∈ es.filter fun r => decide (r.key ∉ zs.take i) := List.mem_filter.mpr ⟨hr', decide_eq_true (by rw [er]; exact nin)⟩
          obtain ⟨T, l, v1, v2, v3⟩ := rows_get E5 (nd.sublist (List.filter_sublist.map _)) hr5
          rw [er] at v1
          refine ⟨_, rfl, rd, rfl, .inl ⟨_, Rd.of M5.rows⟩, _, rfl, _, Sum.inr z, .ref T, M5.rows, rfl, v1, ?_⟩
          rw [rows_drop]
          obtain ⟨k6, t6, M6⟩ := M5.set ((rows.filter fun r => decide (r.1 ∉ zs.take i)).filter fun r => decide (r.1 ≠ z))
          have E6 := (E5.drop (z := z)).imp fun v r h => h.kt t6
          have tz : zs.take (i + 1) = zs.take i ++ [z] := by
            rw [List.take_add_one, hz]
            rfl
          have ef : (es.filter fun r => decide (r.key ∉ zs.take i)).filter (fun r => decide (r.key ≠ z)) = es.filter fun r => decide (r.key ∉ zs.take i ++ [z]) := by
            rw [List.filter_filter]
            refine List.filter_congr fun x _ => ?_
            by_cases e : x.key = z <;> by_cases e2 : x.key ∈ zs.take i <;> simp [e, e2]
          refine ⟨_, rfl, k5.trans k6, k6 _ _ (fun w => pzr (List.mem_singleton.mp w)) e5, ?_, ?_⟩
          · rw [tz, ← rows_out]
            exact M6
          · rw [tz, ← rows_out, ← ef]
            exact E6
        · obtain ⟨y5, rfl, k5, e5, M5, E5⟩ := p
          rw [List.length_map, List.take_length] at M5 E5
          exact ⟨rfl, k5, e5, M5, E5⟩
      · obtain ⟨e6, k5, e5, M5, E5⟩ := hm
        refine ⟨_, e6, by show 2 ≤ sizeLine; decide, fun tt nt => ?_⟩
        have s6 := same_upd (o := .tup [V.str "told", .ref pz]) nt
        have tr : tt ≠ rd := fun z => by
          rw [z, M5.rows] at nt
          cases nt
        have pmb : zs.Perm (((es.map bwOf).filter fun x => decide (x.e ≤ t)).map (·.key)) := by
          have e : ((es.map bwOf).filter fun x => decide (x.e ≤ t)).map (·.key) = (es.filter fun r => decide (r.nd ≤ t)).map (·.key) := by
            rw [List.filter_map, List.map_map]
            rfl
          rw [e]
          exact pm
        refine q tt "told" (.keys zs) _ _ _ _ ⟨zs, pmb, sorted_pw so, rfl, rfl, rfl⟩ (kp_free k5 tr nt) ⟨pz, upd_same, s6 _ _ e5⟩ (kp_new k5 nt) (M5.same s6) (E5.imp fun v r h => h.same s6) ?_
        refine (bw_filter (p := fun x => decide (x.key ∉ zs))).trans (List.filter_congr fun x hx => ?_)
        unfold lateB
        by_cases c : x.e ≤ t
        · have : x.key ∈ zs := pmb.mem_iff.mpr (List.mem_map.mpr ⟨x, List.mem_filter.mpr ⟨hx, decide_eq_true c⟩, rfl⟩)
          rw [decide_eq_true c, decide_eq_false fun z => z this]
          rfl
        · have : x.key ∉ zs := fun z => by
            obtain ⟨y, hy, ey⟩ := List.mem_map.mp (pmb.mem_iff.mp z)
            obtain ⟨h1, h2⟩ := List.mem_filter.mp hy
            rw [nodup_inj ndb y h1 x hx ey] at h2
            exact c (of_decide_eq_true h2)
          rw [decide_eq_false c, decide_eq_true this]
          rfl
end
end My

namespace My
open PySem PySem.Spec PyProof.Rows L2 GX GxR
abbrev s_scNothing : Stmt := topS 2
abbrev n_scNothing : List Str := ["wares"]
theorem scNothing : FnScope n_scNothing ["wares"] (defScope s_scNothing) := ⟨rfl, rfl, rfl, by decide +kernel, rfl, by decide +kernel, by decide +kernel⟩
abbrev s_scSum : Stmt := topS 3
abbrev n_scSum : List Str := ["one", "other", "a", "b"]
theorem scSum : FnScope n_scSum ["one", "other"] (defScope s_scSum) := ⟨rfl, rfl, rfl, by decide +kernel, rfl, by decide +kernel, by decide +kernel⟩
abbrev s_scLess : Stmt := topS 4
abbrev n_scLess : List Str := ["one", "other", "a", "b"]
theorem scLess : FnScope n_scLess ["one", "other"] (defScope s_scLess) := ⟨rfl, rfl, rfl, by decide +kernel, rfl, by decide +kernel, by decide +kernel⟩
abbrev s_scFits : Stmt := topS 5
abbrev n_scFits : List Str := ["one", "other", "a", "b"]
theorem scFits : FnScope n_scFits ["one", "other"] (defScope s_scFits) := ⟨rfl, rfl, rfl, by decide +kernel, rfl, by decide +kernel, by decide +kernel⟩
abbrev s_scTurns : Stmt := topS 24
abbrev n_scTurns : List Str := ["rows", "turns", "key", "begin", "end", "amount"]
theorem scTurns : FnScope n_scTurns ["rows"] (defScope s_scTurns) := ⟨rfl, rfl, rfl, by decide +kernel, rfl, by decide +kernel, by decide +kernel⟩
abbrev s_scLoads : Stmt := topS 25
abbrev n_scLoads : List Str := ["wares", "rows", "loads", "load", "time", "turn", "amount", "edges", "begin", "end"]
theorem scLoads : FnScope n_scLoads ["wares", "rows"] (defScope s_scLoads) := ⟨rfl, rfl, rfl, by decide +kernel, rfl, by decide +kernel, by decide +kernel⟩
abbrev s_scFirst : Stmt := topS 26
abbrev n_scFirst : List Str := ["room", "rows", "begin", "end", "load"]
theorem scFirst : FnScope n_scFirst ["room", "rows"] (defScope s_scFirst) := ⟨rfl, rfl, rfl, by decide +kernel, rfl, by decide +kernel, by decide +kernel⟩
section
variable {P : Program} {w : World} {K : PySem.W.Frag} {mg : Str → Option Value} {base : Heap}
theorem ok_nothing {f : Addr} {fd : FuncData} {k : Nat} (F : Fun K "nothing_of" "nothing_of" s_scNothing f fd) : FnOk P w K mg base CX0 (k + 1) f fd ["wares"] spNothing := by
  refine F.ok scNothing (fun vs H Q E h => ?_) (fun cdv A outer s H vs Q E hr h => ?_)
  · obtain ⟨k, rfl, _⟩ := h
    rfl
  · obtain ⟨k, rfl, h1, h2, q⟩ := h
    refine ⟨_, pss_one (ps_ret (pe_op op_repU (pe_tup (pa_cons pe_int pa_nil)) (pv 0))), ?_⟩
    refine ⟨by show 1 ≤ sizeLine; decide, fun t nt => ⟨_, rfl, t, (k : Int), [.int 0], rfl, rfl, SqT.of upd_same, by simp, by omega, by omega, by decide, fun z => ?_, fun z p np => ?_⟩⟩
    · have z' : k = 1 := by omega
      subst z'
      exact q t _ (same_upd nt) nt upd_same
    · refine q p _ ((same_upd nt).trans (same_upd np)) ((same_upd nt).free np) ?_
      rw [upd_same, Int.toNat_natCast, rep_flat, List.map_replicate]
theorem ok_sum {f : Addr} {fd : FuncData} {k : Nat} (F : Fun K "amount_sum" "amount_sum" s_scSum f fd) (X : Txt mg) : FnOk P w K mg base CX0 (k + 1) f fd ["one", "other"] (spZipS K (· + ·)) := by
  refine F.ok scSum (fun vs H Q E h => ?_) (fun cdv A outer s H vs Q E hr h => ?_)
  · obtain ⟨a, b, xs, ys, rfl, _⟩ := h
    rfl
  · obtain ⟨a, b, xs, ys, rfl, hX, hY, hl, q⟩ := h
    refine ⟨_, (pss_one (ps_ret (pe_callTy call_tuple_of (by rfl) X.tup bt_tuple (pa_cons (pe_lc (own := [("a", 2), ("b", 3)]) (g := (gTup K 2 (gCons (gName 2) (gCons (gName 3) gNil)))) (tt := tYes) rfl scSum.nd (RZ.pi_zipA (by rfl) X.zip (pa_cons (pv 0) (pa_cons (pv 1) pa_nil))) (blkOk_by (own := [("a", 2), ("b", 3)]) (N := n_scSum) (sc := defScope s_scSum) (by decide +kernel)) (fun _ _ _ _ _ => (pg_tup rfl (pgs_cons (pg_name (i := 2) scSum.nd rfl (.inl rfl)) (pgs_cons (pg_name (i := 3) scSum.nd rfl (.inl rfl)) pgs_nil)))) (fun _ _ _ _ _ => pts_nil) (fun _ _ _ _ _ => (pe_op op_add (pv 2) (pv 3)))) pa_nil)))), ?_⟩
    refine ⟨_, rfl, _, rfl, a, b, _, _, rfl, .inr ⟨hX, hY, fun D nD => lc_it (walk_zipT (xs := xs.map V.int) (ys := ys.map V.int) rfl) (fun i H' => Same H H' ∧ H' D = some (.lst (((List.zipWith (· + ·) xs ys).take i).map V.int))) ⟨same_upd nD, upd_same⟩ (fun i H' _ p => ⟨same_seqT p.1 hX, same_seqT p.1 hY⟩) (fun i v H3 H4 hi p y => ?_) (fun H3 p => ?_)⟩⟩
    · obtain ⟨T1, x1, x2, rfl, nT, rfl, g1, g2⟩ := y
      obtain ⟨p1, p2⟩ := p
      obtain ⟨x, hx, rfl⟩ := get_int g1
      obtain ⟨y, hy, rfl⟩ := get_int g2
      have s3 : Same H3 (upd H3 T1 (.tup [.int x, .int y])) := same_upd nT
      have hi2 : i < xs.length := (List.getElem?_eq_some_iff.mp hx).1
      refine ⟨T1, [.int x, .int y], rfl, SqT.of upd_same, rfl, .int x, [.int y], rfl, .int y, [], rfl, rfl, rfl, ?_⟩
      refine ⟨_, rfl, _, rfl, x, y, rfl, rfl, _, s3 _ _ p2, ?_, same_putA (p1.trans s3) nD, ?_⟩
      · rw [List.length_map, List.length_take]
        exact small1000 (by omega)
      · rw [upd_same, zw_take hx hy, List.map_append]
        rfl
    · obtain ⟨p1, p2⟩ := p
      rw [List.take_of_length_le (by rw [List.length_zipWith, List.length_map, List.length_map]; exact Nat.le_refl _)] at p2
      refine ⟨D, _, rfl, .inl ⟨SqL.of p2, fun d nd => ?_⟩⟩
      exact q d _ (p1.trans (same_upd nd)) (p1.free nd) upd_same
theorem ok_less {f : Addr} {fd : FuncData} {k : Nat} (F : Fun K "amount_less" "amount_less" s_scLess f fd) (X : Txt mg) : FnOk P w K mg base CX0 (k + 1) f fd ["one", "other"] (spZipS K (· - ·)) := by
  refine F.ok scLess (fun vs H Q E h => ?_) (fun cdv A outer s H vs Q E hr h => ?_)
  · obtain ⟨a, b, xs, ys, rfl, _⟩ := h
    rfl
  · obtain ⟨a, b, xs, ys, rfl, hX, hY, hl, q⟩ := h
    refine ⟨_, (pss_one (ps_ret (pe_callTy call_tuple_of (by rfl) X.tup bt_tuple (pa_cons (pe_lc (own := [("a", 2), ("b", 3)]) (g := (gTup K 2 (gCons (gName 2) (gCons (gName 3) gNil)))) (tt := tYes) rfl scLess.nd (RZ.pi_zipA (by rfl) X.zip (pa_cons (pv 0) (pa_cons (pv 1) pa_nil))) (blkOk_by (own := [("a", 2), ("b", 3)]) (N := n_scLess) (sc := defScope s_scLess) (by decide +kernel)) (fun _ _ _ _ _ => (pg_tup rfl (pgs_cons (pg_name (i := 2) scLess.nd rfl (.inl rfl)) (pgs_cons (pg_name (i := 3) scLess.nd rfl (.inl rfl)) pgs_nil)))) (fun _ _ _ _ _ => pts_nil) (fun _ _ _ _ _ => (pe_op op_sub (pv 2) (pv 3)))) pa_nil)))), ?_⟩
    refine ⟨_, rfl, _, rfl, a, b, _, _, rfl, .inr ⟨hX, hY, fun D nD => lc_it (walk_zipT (xs := xs.map V.int) (ys := ys.map V.int) rfl) (fun i H' => Same H H' ∧ H' D = some (.lst (((List.zipWith (· - ·) xs ys).take i).map V.int))) ⟨same_upd nD, upd_same⟩ (fun i H' _ p => ⟨same_seqT p.1 hX, same_seqT p.1 hY⟩) (fun i v H3 H4 hi p y => ?_) (fun H3 p => ?_)⟩⟩
    · obtain ⟨T1, x1, x2, rfl, nT, rfl, g1, g2⟩ := y
      obtain ⟨p1, p2⟩ := p
      obtain ⟨x, hx, rfl⟩ := get_int g1
      obtain ⟨y, hy, rfl⟩ := get_int g2
      have s3 : Same H3 (upd H3 T1 (.tup [.int x, .int y])) := same_upd nT
      have hi2 : i < xs.length := (List.getElem?_eq_some_iff.mp hx).1
      refine ⟨T1, [.int x, .int y], rfl, SqT.of upd_same, rfl, .int x, [.int y], rfl, .int y, [], rfl, rfl, rfl, ?_⟩
      refine ⟨_, rfl, _, rfl, x, y, rfl, rfl, _, s3 _ _ p2, ?_, same_putA (p1.trans s3) nD, ?_⟩
      · rw [List.length_map, List.length_take]
        exact small1000 (by omega)
      · rw [upd_same, zw_take hx hy, List.map_append]
        rfl
    · obtain ⟨p1, p2⟩ := p
      rw [List.take_of_length_le (by rw [List.length_zipWith, List.length_map, List.length_map]; exact Nat.le_refl _)] at p2
      refine ⟨D, _, rfl, .inl ⟨SqL.of p2, fun d nd => ?_⟩⟩
      exact q d _ (p1.trans (same_upd nd)) (p1.free nd) upd_same
theorem ok_fits {f c T : Addr} {fd : FuncData} {k : Nat} (F : FunC K "amount_fits" "amount_fits" s_scFits f fd c) (X : Txt mg) (TB : TabB base mg c T) : FnOk P w K mg base CX0 (k + 1) f fd ["one", "other"] (spFits K T) := by
  refine F.ok scFits (fun vs H Q E h => ?_) (fun A outer s H vs Q E hr h => ?_)
  · obtain ⟨a, b, xs, ys, rfl, _⟩ := h
    rfl
  · obtain ⟨a, b, xs, ys, rfl, hX, hY, hT, q⟩ := h
    refine ⟨_, pss_one (ps_ret (pe_allG (by rfl) X.all (by decide +kernel) (pgn_zip hr TB rfl (genS_of (by decide +kernel)) rfl (by decide) (by rfl) X.zip (pa_cons (pv 0) (pa_cons (pv 1) pa_nil)) (elt_le rfl rfl rfl) (fun _ => rfl)))), ?_⟩
    refine ⟨_, rfl, _, rfl, a, b, _, _, rfl, hX, hY, hT, zip_ints xs ys, _, zip_bl (op := fun i j => decide (i ≤ j)) (fun _ _ => rfl) xs ys, fun H2 hT2 => ?_⟩
    exact q H2 hT2.1 (kp_of_tabbed hT2)
theorem turn_step {H H' : Hp} {D : Addr} {us : List Addr} {Us : List Tn} {u : Tn} {T p : Addr} (nT : H T = none) (hp : H p = some (.tup (u.am.map V.int))) (eD : H D = some (.lst (us.map V.ref))) (pr : Paired (TnAt H) us Us) (e : H' = upd (upd H T (.tup [.int u.t, .int u.k, .ref p])) D (.lst (us.map V.ref ++ [.ref T]))) :
    H' D = some (.lst ((us ++ [T]).map V.ref)) ∧ Paired (TnAt H') (us ++ [T]) (Us ++ [u]) := by
  have k1 : KTu H (upd H T (.tup [.int u.t, .int u.k, .ref p])) := kt_new nT
  have eD1 := same_upd (o := .tup [.int u.t, .int u.k, .ref p]) nT _ _ eD
  have k2 : KTu (upd H T (.tup [.int u.t, .int u.k, .ref p])) H' := by
    rw [e]
    exact kt_put eD1 (fun xs z => by cases z)
  refine ⟨by rw [e, upd_same, List.map_append]; rfl, Paired.snoc (pr.mono fun _ _ x => x.kt (k1.trans k2)) ⟨p, k2 _ _ upd_same, k2 _ _ (k1 _ _ hp)⟩⟩
set_option maxHeartbeats 2000000 in
theorem ok_turns {f : Addr} {fd : FuncData} {k : Nat} {tb te : Tok} (F : Fun K "turns_of" "turns_of" s_scTurns f fd) (mSorted : mg "sorted" = none) (mB : mg "BEGINS" = some (.int 1 tb)) (mE : mg "ENDS" = some (.int 0 te)) :
    FnOk P w K mg base CX0 (k + 1) f fd ["rows"] (spTurns K) := by
  refine F.ok scTurns (fun vs H Q E h => ?_) (fun cdv A outer s H vs Q E hr h => ?_)
  · obtain ⟨a, as, rs, rfl, _⟩ := h
    rfl
  · obtain ⟨a, as, rs, rfl, hA, prs, few, q⟩ := h
    have la : as.length = rs.length := prs.length
    refine ⟨_, (pss_cons (ps_setLc (i := 1) (own := [("key", 2), ("begin", 3), ("end", 4), ("amount", 5)]) (g := (gTup K 4 (gCons (gName 2) (gCons (gName 3) (gCons (gName 4) (gCons (gName 5) gNil)))))) (tt := tYes) rfl scTurns.nd rfl rfl (sw_true rfl rfl rfl (by decide +kernel)) (pi_list (pv 0)) (blkOk_by (own := [("key", 2), ("begin", 3), ("end", 4), ("amount", 5)]) (N := n_scTurns) (sc := defScope s_scTurns) (by decide +kernel)) (fun _ _ _ _ _ => (pg_tup rfl (pgs_cons (pg_name (i := 2) scTurns.nd rfl (.inl rfl)) (pgs_cons (pg_name (i := 3) scTurns.nd rfl (.inl rfl)) (pgs_cons (pg_name (i := 4) scTurns.nd rfl (.inl rfl)) (pgs_cons (pg_name (i := 5) scTurns.nd rfl (.inl rfl)) pgs_nil)))))) (fun _ _ _ _ _ => pts_nil) (fun _ _ _ _ _ => (pe_tup (pa_cons (pv 3) (pa_cons (pe_glob (v := .int 1) (by rfl) mB ⟨_, rfl⟩) (pa_cons (pv 5) pa_nil))))))
      (pss_cons (ps_aug (i := 1) scTurns.nd rfl (.inl rfl) (pe_lc (own := [("key", 2), ("begin", 3), ("end", 4), ("amount", 5)]) (g := (gTup K 4 (gCons (gName 2) (gCons (gName 3) (gCons (gName 4) (gCons (gName 5) gNil)))))) (tt := tYes) rfl scTurns.nd (pi_list (pv 0)) (blkOk_by (own := [("key", 2), ("begin", 3), ("end", 4), ("amount", 5)]) (N := n_scTurns) (sc := defScope s_scTurns) (by decide +kernel)) (fun _ _ _ _ _ => (pg_tup rfl (pgs_cons (pg_name (i := 2) scTurns.nd rfl (.inl rfl)) (pgs_cons (pg_name (i := 3) scTurns.nd rfl (.inl rfl)) (pgs_cons (pg_name (i := 4) scTurns.nd rfl (.inl rfl)) (pgs_cons (pg_name (i := 5) scTurns.nd rfl (.inl rfl)) pgs_nil)))))) (fun _ _ _ _ _ => pts_nil) (fun _ _ _ _ _ => (pe_tup (pa_cons (pv 4) (pa_cons (pe_glob (v := .int 0) (by rfl) mE ⟨_, rfl⟩) (pa_cons (pv 5) pa_nil)))))) iop_ext)
      (pss_one (ps_ret (pe_callB (cr_sortD hr.units) (by rfl) mSorted (by decide +kernel) (pa_cons (pv 1) pa_nil)))))), ?_⟩
    refine ⟨_, rfl, a, rfl, ⟨_, hA⟩, fun D nD => ?_⟩
    refine lc_list (K := K) (a := a) (xs := as.map V.ref) (fun i H' => Same H H' ∧ ∃ us, H' D = some (.lst (us.map V.ref)) ∧ Paired (TnAt H') us ((rs.take i).map begT))
      ⟨same_upd nD, [], upd_same, .nil⟩ (fun i H' _ p => p.1.seq hA) (fun i x H3 hx p => ?_) (fun H3 p => ?_)
    · obtain ⟨p1, us, p2, p3⟩ := p
      obtain ⟨ra, hra, rfl⟩ := map_get hx
      obtain ⟨R, hR, am, r1, r2⟩ := paired_get prs hra
      have lu := p3.length
      rw [List.length_map, List.length_take] at lu
      refine ⟨ra, _, rfl, SqT.of (p1 _ _ r1), rfl, _, _, rfl, _, _, rfl, _, _, rfl, _, _, rfl, rfl, rfl, ?_⟩
      refine ⟨_, rfl, _, rfl, by show 3 ≤ sizeLine; decide, fun T nT => ⟨_, same_upd nT _ _ p2, ?_, same_put (p1.trans (same_upd nT)) nD, us ++ [T], ?_⟩⟩
      · rw [List.length_map]
        exact small63 (by omega)
      · rw [List.take_add_one, hR, show (rs.take i ++ (some R).toList).map begT = (rs.take i).map begT ++ [begT R] from List.map_append]
        exact turn_step (u := begT R) nT (p1 _ _ r2) p2 p3 rfl
    obtain ⟨p1, us, p2, p3⟩ := p
    rw [List.length_map, List.take_of_length_le (by omega)] at p3
    refine ⟨_, rfl, _, rfl, a, rfl, ⟨_, p1.seq hA⟩, fun D2 nD2 => ?_⟩
    have nD2' := p1.free nD2
    have nDD : D ≠ D2 := fun z => by
      rw [← z, p2] at nD2
      cases nD2
    refine lc_list (K := K) (a := a) (xs := as.map V.ref) (fun i H' => Same H3 H' ∧ ∃ us, H' D2 = some (.lst (us.map V.ref)) ∧ Paired (TnAt H') us ((rs.take i).map endT))
      ⟨same_upd nD2, [], upd_same, .nil⟩ (fun i H' _ p => (p1.trans p.1).seq hA) (fun i x H4 hx p => ?_) (fun H4 p => ?_)
    · obtain ⟨q1, vs, q2, q3⟩ := p
      obtain ⟨ra, hra, rfl⟩ := map_get hx
      obtain ⟨R, hR, am, r1, r2⟩ := paired_get prs hra
      have s4 := p1.trans q1
      have lu := q3.length
      rw [List.length_map, List.length_take] at lu
      refine ⟨ra, _, rfl, SqT.of (s4 _ _ r1), rfl, _, _, rfl, _, _, rfl, _, _, rfl, _, _, rfl, rfl, rfl, ?_⟩
      refine ⟨_, rfl, _, rfl, by show 3 ≤ sizeLine; decide, fun T nT => ⟨_, same_upd nT _ _ q2, ?_, same_put (q1.trans (same_upd nT)) nD2, vs ++ [T], ?_⟩⟩
      · rw [List.length_map]
        exact small63 (by omega)
      · rw [List.take_add_one, hR, show (rs.take i ++ (some R).toList).map endT = (rs.take i).map endT ++ [endT R] from List.map_append]
        exact turn_step (u := endT R) nT (s4 _ _ r2) q2 q3 rfl
    obtain ⟨q1, vs, q2, q3⟩ := p
    rw [List.length_map, List.take_of_length_le (by omega)] at q3
    have l1 := p3.length
    have l2 := q3.length
    rw [List.length_map] at l1 l2
    refine ⟨D, D2, _, _, rfl, rfl, q1 _ _ p2, q2, ?_, ?_⟩
    · rw [List.length_map, List.length_map]
      exact Nat.le_of_lt (small63 (by omega))
    have kt5 : KTu H4 (upd H4 D (.lst (us.map V.ref ++ vs.map V.ref))) := kt_put (q1 _ _ p2) (fun xs z => by cases z)
    have s5 : Same H (upd H4 D (.lst (us.map V.ref ++ vs.map V.ref))) := same_put (p1.trans q1) nD
    have e5 : upd H4 D (.lst (us.map V.ref ++ vs.map V.ref)) D = some (.lst ((us ++ vs).map V.ref)) := by rw [upd_same, List.map_append]
    have pr5 : Paired (TnAt (upd H4 D (.lst (us.map V.ref ++ vs.map V.ref)))) (us ++ vs) (turns rs) := (paired_app (p3.mono fun _ _ x => x.kt (Same.kt q1)) q3).mono fun _ _ x => x.kt kt5
    generalize upd H4 D (.lst (us.map V.ref ++ vs.map V.ref)) = H5 at s5 e5 pr5 ⊢
    obtain ⟨ps, y1, y2, y3⟩ := paired_zip pr5
    refine ⟨_, rfl, D, _, encT H5, rfl, SqL.of e5, fun x hx => ?_, fun d1 h1 d2 h2 => ?_, .inl fun d1 h1 => ?_, fun x hx => ?_, fun st nst => ?_⟩
    · obtain ⟨b, hb, rfl⟩ := List.mem_map.mp hx
      rw [← y1] at hb
      obtain ⟨p, hp, rfl⟩ := List.mem_map.mp hb
      rw [encT_of (y3 p hp)]
      exact dp_tn (y3 p hp)
    · obtain ⟨x, hx, rfl⟩ := List.mem_map.mp h1
      obtain ⟨y, hy, rfl⟩ := List.mem_map.mp h2
      obtain ⟨b, hb, rfl⟩ := List.mem_map.mp hx
      obtain ⟨c, hc, rfl⟩ := List.mem_map.mp hy
      rw [← y1] at hb hc
      obtain ⟨p, hp, rfl⟩ := List.mem_map.mp hb
      obtain ⟨p', hp', rfl⟩ := List.mem_map.mp hc
      rw [encT_of (y3 p hp), encT_of (y3 p' hp')]
      exact alike_tn _ _
    · obtain ⟨x, hx, rfl⟩ := List.mem_map.mp h1
      obtain ⟨b, hb, rfl⟩ := List.mem_map.mp hx
      rw [← y1] at hb
      obtain ⟨p, hp, rfl⟩ := List.mem_map.mp hb
      rw [encT_of (y3 p hp)]
      exact ⟨_, _, rfl⟩
    · obtain ⟨b, hb, rfl⟩ := List.mem_map.mp hx
      rw [← y1] at hb
      obtain ⟨p, hp, rfl⟩ := List.mem_map.mp hb
      rw [encT_of (y3 p hp)]
      exact Nat.le_trans (dpt_tn _) (by decide)
    obtain ⟨qs, x1, x2, x3⟩ := sort_tns y3
    rw [y1] at x2
    rw [x2]
    refine q st _ (qs.map (·.1)) (qs.map (·.2)) (s5.trans (same_upd nst)) (s5.free nst) upd_same (paired_of fun p hp => (y3 p (x1.mem_iff.mp hp)).kt (kt_new nst)) ?_ x3
    rw [← y2]
    exact x1.map _
set_option maxHeartbeats 2000000 in
theorem ok_loads {f fN fU fP fM : Addr} {fd fdN fdU fdP fdM : FuncData} {k : Nat} {tb : Tok} (F : Fun K "loads_of" "loads_of" s_scLoads f fd) (X : Txt mg) (mB : mg "BEGINS" = some (.int 1 tb))
    (GN : FnOk P w K mg base CX0 k fN fdN ["wares"] spNothing) (mN : mg "nothing_of" = some (.ref fN)) (kN : PySem.W.keepIn K (.ref fN) = true) (bN : L2.Binds K fdN ["wares"] [])
    (GU : FnOk P w K mg base CX0 k fU fdU ["rows"] (spTurns K)) (mU : mg "turns_of" = some (.ref fU)) (kU : PySem.W.keepIn K (.ref fU) = true) (bU : L2.Binds K fdU ["rows"] [])
    (GP : FnOk P w K mg base CX0 k fP fdP ["one", "other"] (spZipS K (· + ·))) (mP : mg "amount_sum" = some (.ref fP)) (kP : PySem.W.keepIn K (.ref fP) = true) (bP : L2.Binds K fdP ["one", "other"] [])
    (GM : FnOk P w K mg base CX0 k fM fdM ["one", "other"] (spZipS K (· - ·))) (mM : mg "amount_less" = some (.ref fM)) (kM : PySem.W.keepIn K (.ref fM) = true) (bM : L2.Binds K fdM ["one", "other"] []) :
    FnOk P w K mg base CX0 (k + 1) f fd ["wares", "rows"] (spLoads K) := by
  refine F.ok scLoads (fun vs H Q E h => ?_) (fun cdv A outer s H vs Q E hr h => ?_)
  · obtain ⟨a, w, as, rs, rfl, _⟩ := h
    rfl
  · obtain ⟨a, w, as, rs, rfl, hA, prs, ok, w1, w2, q⟩ := h
    refine ⟨_, (pss_cons (ps_set (i := 2) scLoads.nd rfl (.inr rfl) pe_dnewK)
      (pss_cons (ps_set (i := 3) scLoads.nd rfl (.inl rfl) (pe_call GN hr (by rfl) mN kN bN .nil pass0 (pa_cons (pv 0) pa_nil)))
      (C8.pss_cut (ps_for PassesOwn.never rfl (pi_list (pe_call GU hr (by rfl) mU kU bU .nil pass0 (pa_cons (pv 1) pa_nil))) (pg_tup rfl (pgs_cons (pg_name (i := 4) scLoads.nd rfl (.inl rfl)) (pgs_cons (pg_name (i := 5) scLoads.nd rfl (.inl rfl)) (pgs_cons (pg_name (i := 6) scLoads.nd rfl (.inl rfl)) pgs_nil))))
        (pss_cons (ps_set (i := 3) scLoads.nd rfl (.inl rfl) (pe_ifExp (pt_cmpR op_eq (pv 5) (pe_glob (v := .int 1) (by rfl) mB ⟨_, rfl⟩) (nomark _)) (pe_call GP hr (by rfl) mP kP bP .nil pass0 (pa_cons (pv 3) (pa_cons (pv 6) pa_nil))) (pe_call GM hr (by rfl) mM kM bM .nil pass0 (pa_cons (pv 3) (pa_cons (pv 6) pa_nil)))))
        (pss_one (ps_dput (hu_of hr) (pv 2) (pv 4) (pv 3) rfl))))
      (pss_cons (ps_set (i := 7) scLoads.nd rfl (.inl rfl) (pe_callTy (call_listD rfl) (by rfl) X.lst bt_list (pa_cons (pv 2) pa_nil)))
      (pss_one (ps_ret (pe_lc (own := [("begin", 8), ("end", 9)]) (g := (gTup K 2 (gCons (gName 8) (gCons (gName 9) gNil)))) (tt := tYes) rfl scLoads.nd (RZ.pi_zipA (by rfl) X.zip (pa_cons (pv 7) (pa_cons (pe_slice sl_list (pv 7) (po_some pe_int) po_none) pa_nil))) (blkOk_by (own := [("begin", 8), ("end", 9)]) (N := n_scLoads) (sc := defScope s_scLoads) (by decide +kernel)) (fun _ _ _ _ _ => (pg_tup rfl (pgs_cons (pg_name (i := 8) scLoads.nd rfl (.inl rfl)) (pgs_cons (pg_name (i := 9) scLoads.nd rfl (.inl rfl)) pgs_nil)))) (fun _ _ _ _ _ => pts_nil) (fun _ _ _ _ _ => (pe_tup (pa_cons (pv 8) (pa_cons (pv 9) (pa_cons (pe_dget (hu_of hr) (pv 2) (pv 8) (fun _ _ => rfl)) pa_nil)))))))))))), ?_⟩
    refine fun d nd => ?_
    have s0 : Same H (upd H d (.dK [])) := same_upd nd
    have ed0 : upd H d (.dK []) d = some (.dK []) := upd_same
    generalize upd H d (.dK []) = H0 at s0 ed0 ⊢
    refine ⟨_, rfl, w, rfl, w1, by omega, fun z0 H1 s1 nz0 ez0 => ?_⟩
    have s01 := s0.trans s1
    refine ⟨fun σ H' => ∃ (y3 y4 y5 y6 : Option V) (ps : List (Key × V)) (ks : List Int) (Us : List Tn), σ = [some (.int (w : Int)), some (.ref a), some (.ref d), y3, y4, y5, y6, none, none, none] ∧ Same H H' ∧ H' d = some (.dK ps) ∧ Gath H' w Us ps ks ∧ Us.Perm (turns rs), ?_, fun σ H' hm => ?_⟩
    · refine ⟨_, rfl, a, as, rs, rfl, s01.seq hA, prs.mono fun _ _ x => x.kt (Same.kt s01), ok.few, fun p H2 us Us s2 np ep pu pm so => ⟨p, rfl, ⟨_, SqL.of ep⟩, ?_⟩⟩
      have s02 := s01.trans s2
      have ed2 := s2 _ _ (s1 _ _ ed0)
      have lus : us.length = Us.length := pu.length
      have lU : Us.length ≤ 400 := by
        rw [pm.length_eq]
        unfold turns
        rw [List.length_append, List.length_map, List.length_map]
        have := ok.few
        omega
      have amU : ∀ u ∈ Us, u.am.length = w := fun u hu => by
        rcases List.mem_append.mp (pm.mem_iff.mp hu) with z | z
        · obtain ⟨x, hx, rfl⟩ := List.mem_map.mp z
          exact ok.len x hx
        · obtain ⟨x, hx, rfl⟩ := List.mem_map.mp z
          exact ok.len x hx
      have pd : p ≠ d := fun z => by
        rw [z, ed2] at ep
        cases ep
      refine for_list (xs := us.map V.ref) (fun i σ H' => ∃ (l : Addr) (y4 y5 y6 : Option V) (ps : List (Key × V)) (ks : List Int), σ = [some (.int (w : Int)), some (.ref a), some (.ref d), some (.ref l), y4, y5, y6, none, none, none] ∧ Kp [d] H2 H' ∧ H' d = some (.dK ps) ∧ Gath H' w (Us.take i) ps ks ∧ ks.length ≤ i ∧ H' l = some (.tup ((sumT w (Us.take i)).map V.int)))
        ⟨z0, none, none, none, [], [], rfl, Kp.refl _ _, ed2, Gath.nil, Nat.le_refl _, ?_⟩ (fun i σ H' _ p => ?_) (fun i x σ H3 hx p => ?_) (fun σ H3 p => ?_)
      · rw [List.take_zero, sumT_nil]
        exact s2 _ _ ez0
      · obtain ⟨_, _, _, _, _, _, _, k2, _⟩ := p
        exact SqL.of (k2 _ _ (fun z => pd (List.mem_singleton.mp z)) ep)
      · obtain ⟨l, y4, y5, y6, ps, ks, rfl, k2, ed3, gt, lk, el⟩ := p
        obtain ⟨ru, hru, rfl⟩ := map_get hx
        obtain ⟨u, hu, tu⟩ := paired_get pu hru
        have kt2 : KTu H2 H3 := fun x xs e => k2 _ _ (fun z => by
          rw [List.mem_singleton.mp z, ed2] at e
          cases e) e
        obtain ⟨am, t1, t2⟩ := tu.kt kt2
        have hi : i < us.length := (List.getElem?_eq_some_iff.mp hru).1
        have hum := List.mem_of_getElem? hu
        have lam := amU u hum
        have tk : Us.take (i + 1) = Us.take i ++ [u] := by
          rw [List.take_add_one, hu]
          rfl
        have le : ∀ x ∈ Us.take i, x.t ≤ u.t := fun x hx => by
          obtain ⟨j, hj⟩ := List.mem_iff_getElem?.mp hx
          rw [List.getElem?_take] at hj
          split at hj
          · rename_i lt
            obtain ⟨a1, b1⟩ := List.getElem?_eq_some_iff.mp hj
            obtain ⟨a2, b2⟩ := List.getElem?_eq_some_iff.mp hu
            rw [← b1, ← b2]
            exact List.pairwise_iff_getElem.mp so j i a1 a2 lt
          · cases hj
        have fin : ∀ (p3 : Addr) (H4 : Hp), Same H3 H4 → H4 p3 = some (.tup ((sumT w (Us.take (i + 1))).map V.int)) → ∃ H5, DPut H4 d (.int u.t) (.ref p3) H5 ∧
            (∃ (l : Addr) (y4 y5 y6 : Option V) (ps : List (Key × V)) (ks : List Int), [some (V.int (w : Int)), some (.ref a), some (.ref d), some (.ref p3), some (.int u.t), some (.int u.k), some (.ref am), none, none, none] = [some (V.int (w : Int)), some (.ref a), some (.ref d), some (.ref l), y4, y5, y6, none, none, none] ∧ Kp [d] H2 H5 ∧ H5 d = some (.dK ps) ∧ Gath H5 w (Us.take (i + 1)) ps ks ∧ ks.length ≤ i + 1 ∧ H5 l = some (.tup ((sumT w (Us.take (i + 1))).map V.int))) := fun p3 H4 s4 e4 => by
          have ed4 := s4 _ _ ed3
          have lp := gt.len
          have g4 := gt.kt (Same.kt s4)
          rw [tk] at e4 ⊢
          obtain ⟨ls, g5⟩ := g4.put le e4
          have k5 : KTu H4 (upd H4 d (.dK (putK ps (Sum.inl u.t) (.ref p3)))) := kt_put ed4 (fun xs z => by cases z)
          have l5 : ls.length ≤ ps.length + 1 := by
            have e := congrArg List.length g5.keys
            rw [List.length_map, List.length_map] at e
            rw [← e]
            unfold putK
            split
            · rw [List.length_map]
              omega
            · rw [List.length_append]
              exact Nat.le_refl _
          refine ⟨_, DPut.k (k := (Sum.inl u.t : Key)) ed4 (small63 (by omega)), p3, _, _, _, _, ls, rfl, ?_, upd_same, g5.kt k5, by omega, k5 _ _ e4⟩
          exact fun x o nx e => by
            rw [upd_ne fun z => nx (List.mem_singleton.mpr z)]
            exact s4 _ _ (k2 _ _ nx e)
        refine ⟨ru, _, rfl, SqT.of t1, rfl, _, _, rfl, _, _, rfl, _, _, rfl, rfl, ?_⟩
        refine ⟨_, rfl, rfl, _, rfl, ite2 (fun e => ?_) (fun e => ?_)⟩
        · have ek : u.k = 1 := by
            have := of_decide_eq_true e
            injection this
          refine ⟨_, rfl, _, rfl, l, am, _, _, rfl, SqT.of el, SqT.of t2, by rw [sumT_len]; omega, fun p3 H4 s4 n4 e4 => ?_⟩
          rw [sumT_add ek lam, ← tk] at e4
          obtain ⟨H5, d5, r5⟩ := fin p3 H4 s4 e4
          exact ⟨_, rfl, _, rfl, _, rfl, d, H5, rfl, d5, r5⟩
        · have ek : u.k ≠ 1 := fun z => e (by rw [z]; rfl)
          refine ⟨_, rfl, _, rfl, l, am, _, _, rfl, SqT.of el, SqT.of t2, by rw [sumT_len]; omega, fun p3 H4 s4 n4 e4 => ?_⟩
          rw [sumT_sub ek lam, ← tk] at e4
          obtain ⟨H5, d5, r5⟩ := fin p3 H4 s4 e4
          exact ⟨_, rfl, _, rfl, _, rfl, d, H5, rfl, d5, r5⟩
      · obtain ⟨l, y4, y5, y6, ps, ks, rfl, k2, ed3, gt, lk, el⟩ := p
        rw [List.length_map, List.take_of_length_le (by omega)] at gt
        exact ⟨_, _, _, _, ps, ks, Us, rfl, same_kp s02 nd k2, ed3, gt, pm⟩
    obtain ⟨y3, y4, y5, y6, ps, ks, Us, rfl, s3, ed3, gt, pm⟩ := hm
    refine ⟨_, rfl, d, ps, rfl, Rd.of ed3, fun e ne => ?_⟩
    have ek : (ps.map fun kv => kV kv.1) = ks.map V.int := by
      have := congrArg (List.map kV) gt.keys
      rw [List.map_map, List.map_map] at this
      exact this
    rw [ek]
    have s4 : Same H' (upd H' e (.lst (ks.map V.int))) := same_upd ne
    have ee4 : upd H' e (.lst (ks.map V.int)) e = some (.lst (ks.map V.int)) := upd_same
    generalize upd H' e (.lst (ks.map V.int)) = H4 at s4 ee4 ⊢
    refine ⟨_, rfl, _, rfl, 1, rfl, e, _, rfl, SqL.of ee4, fun sl nsl => ?_⟩
    rw [show (1 : Int) = ((1 : Nat) : Int) from rfl, cut_drop, ← List.map_drop]
    have s5 : Same H4 (upd H4 sl (.lst ((ks.drop 1).map V.int))) := same_upd nsl
    have es5 : upd H4 sl (.lst ((ks.drop 1).map V.int)) sl = some (.lst ((ks.drop 1).map V.int)) := upd_same
    generalize upd H4 sl (.lst ((ks.drop 1).map V.int)) = H5 at s5 es5 ⊢
    have ee5 := s5 _ _ ee4
    have s35 := s4.trans s5
    have ed5 := s35 _ _ ed3
    have g5 := gt.kt (Same.kt s35)
    have lk : ks.length ≤ 400 := by
      have h1 : ks.Nodup := gt.inc.imp fun h z => by omega
      have h2 : ∀ t ∈ ks, t ∈ Us.map (·.t) := fun t ht => by
        obtain ⟨u, hu, e⟩ := (gt.mem t).mp ht
        exact List.mem_map.mpr ⟨u, hu, e⟩
      have h3 := nodup_len h1 h2
      rw [List.length_map, pm.length_eq] at h3
      unfold turns at h3
      rw [List.length_append, List.length_map, List.length_map] at h3
      have := ok.few
      omega
    refine ⟨e, sl, _, _, rfl, .inl ⟨SqL.of ee5, SqL.of es5, fun D nD => ?_⟩⟩
    refine lc_it (walk_zip (K := K) (a := e) (b := sl) (xs := ks.map V.int) (ys := (ks.drop 1).map V.int) rfl) (fun i H' => Same H5 H' ∧ ∃ ls, H' D = some (.lst (ls.map V.ref)) ∧ Paired (LdAt w rs H') ls ((ks.zip (ks.drop 1)).take i))
      ⟨same_upd nD, [], upd_same, .nil⟩ (fun i H' _ p => ⟨SqL.of (p.1 _ _ ee5), SqL.of (p.1 _ _ es5)⟩) (fun i v H6 H7 hi p y => ?_) (fun H6 p => ?_)
    · obtain ⟨T1, x1, x2, rfl, nT, rfl, g1, g2⟩ := y
      obtain ⟨p1, ls, p2, p3⟩ := p
      obtain ⟨x, hx, rfl⟩ := get_int g1
      obtain ⟨y, hy, rfl⟩ := get_int g2
      have s6 : Same H6 (upd H6 T1 (.tup [.int x, .int y])) := same_upd nT
      have s56 := p1.trans s6
      obtain ⟨av, v1, v2⟩ := (g5.kt (Same.kt s56)).get hx
      rw [net_eq ok.lt pm] at v2
      have lu := p3.length
      rw [List.length_take] at lu
      have hik : i < ks.length := (List.getElem?_eq_some_iff.mp hx).1
      refine ⟨T1, [.int x, .int y], rfl, SqT.of upd_same, rfl, .int x, [.int y], rfl, .int y, [], rfl, rfl, rfl, ?_⟩
      refine ⟨_, rfl, _, rfl, _, rfl, _, rfl, d, .ref av, rfl, .inl ⟨ps, (Sum.inl x : Key), .inl (s56 _ _ ed5), rfl, v1.symm⟩, by show 3 ≤ sizeLine; decide, fun T nT2 => ⟨_, same_upd nT2 _ _ (s6 _ _ p2), ?_, same_put (s56.trans (same_upd nT2)) nD, ls ++ [T], ?_⟩⟩
      · rw [List.length_map]
        exact small63 (by omega)
      · have k1 : KTu (upd H6 T1 (.tup [.int x, .int y])) (upd (upd H6 T1 (.tup [.int x, .int y])) T (.tup [.int x, .int y, .ref av])) := kt_new nT2
        have k2 : KTu (upd (upd H6 T1 (.tup [.int x, .int y])) T (.tup [.int x, .int y, .ref av])) (upd (upd (upd H6 T1 (.tup [.int x, .int y])) T (.tup [.int x, .int y, .ref av])) D (.lst (ls.map V.ref ++ [.ref T]))) := kt_put (same_upd nT2 _ _ (s6 _ _ p2)) (fun xs z => by cases z)
        refine ⟨by rw [upd_same, List.map_append]; rfl, ?_⟩
        rw [List.take_add_one, (List.getElem?_zip_eq_some (z := (x, y))).mpr ⟨hx, hy⟩]
        exact Paired.snoc (p3.mono fun _ _ x => x.kt ((Same.kt s6).trans (k1.trans k2))) ⟨av, k2 _ _ upd_same, k2 _ _ (k1 _ _ v2)⟩
    · obtain ⟨p1, ls, p2, p3⟩ := p
      rw [List.take_of_length_le (by rw [List.length_zip, List.length_map, List.length_map]; exact Nat.le_refl _)] at p3
      have sf := s3.trans s35
      exact q D H6 ls ks (sf.trans p1) (sf.free nD) p2 (gt.srt pm) p3
theorem ok_first {f fD fF T : Addr} {fd fdD fdF : FuncData} {k : Nat} {Ts : List Addr} (iT : T ∈ Ts) (F : Fun K "first_over" "first_over" s_scFirst f fd) (X : Txt mg)
    (GD : FnOk P w K mg base CX0 k fD fdD ["wares", "rows"] (spLoads K)) (mD : mg "loads_of" = some (.ref fD)) (kD : PySem.W.keepIn K (.ref fD) = true) (bD : L2.Binds K fdD ["wares", "rows"] [])
    (GF : FnOk P w K mg base CX0 k fF fdF ["one", "other"] (spFits K T)) (mF : mg "amount_fits" = some (.ref fF)) (kF : PySem.W.keepIn K (.ref fF) = true) (bF : L2.Binds K fdF ["one", "other"] []) :
    FnOk P w K mg base CX0 (k + 1) f fd ["room", "rows"] (spOver K Ts) := by
  refine F.ok scFirst (fun vs H Q E h => ?_) (fun cdv A outer s H vs Q E hr h => ?_)
  · obtain ⟨m, a, room, as, rs, rfl, _⟩ := h
    rfl
  · obtain ⟨m, a, room, as, rs, rfl, hM, hA, prs, ok, r1, r2, nn, tH, q⟩ := h
    refine ⟨_, (C8.pss_cut (ps_for PassesOwn.never rfl (pi_list (pe_call GD hr (by rfl) mD kD bD .nil pass0 (pa_cons (pe_callB call_len_seq (by rfl) X.len PySem.boot_len (pa_cons (pv 0) pa_nil)) (pa_cons (pv 1) pa_nil)))) (pg_tup rfl (pgs_cons (pg_name (i := 2) scFirst.nd rfl (.inl rfl)) (pgs_cons (pg_name (i := 3) scFirst.nd rfl (.inl rfl)) (pgs_cons (pg_name (i := 4) scFirst.nd rfl (.inl rfl)) pgs_nil))))
        (pss_one (ps_if (pt_not (pt_val (pe_call GF hr (by rfl) mF kF bF .nil pass0 (pa_cons (pv 4) (pa_cons (pv 0) pa_nil)))))
          (pss_one (ps_ret (pv 2)))
          pss_nil)))
      (pss_one (ps_ret pe_non))), ?_⟩
    refine ⟨fun σ H' => ∃ ks, Fw Ts H H' ∧ Srt rs ks ∧ ks.find? (ovr room.length rs room) = none, ?_, fun σ H' hm => ?_⟩
    · refine ⟨_, rfl, m, _, rfl, .inr hM, _, rfl, a, room.length, as, rs, by rw [List.length_map]; rfl, hA, prs, ok, r1, r2, fun p H1 ls ks s1 np ep sr pl => ⟨p, rfl, ⟨_, SqL.of ep⟩, ?_⟩⟩
      have f1 := Fw.same tH s1
      have t1 := f1.tabs
      have ll := pl.length
      rw [List.length_zip, List.length_drop] at ll
      refine for_list (xs := ls.map V.ref) (fun i σ H' => ∃ (y2 y3 y4 : Option V), σ = [some (.ref m), some (.ref a), y2, y3, y4] ∧ Fw Ts H1 H' ∧ ∀ (j : Nat) (x : Int), j < i → ks[j]? = some x → ovr room.length rs room x = false)
        ⟨none, none, none, rfl, Fw.refl t1, fun j x hj => absurd hj (Nat.not_lt_zero _)⟩ (fun i σ H' _ p => ?_) (fun i x σ H3 hx p => ?_) (fun σ H3 p => ?_)
      · obtain ⟨_, _, _, _, f2, _⟩ := p
        exact SqL.of (f2.lst t1 ep)
      · obtain ⟨y2, y3, y4, rfl, f2, no⟩ := p
        obtain ⟨rl, hrl, rfl⟩ := map_get hx
        obtain ⟨z, hz, ld⟩ := paired_get pl hrl
        obtain ⟨pn, l1, l2⟩ := ld.kt (f2.kt t1)
        obtain ⟨hk, _⟩ := List.getElem?_zip_eq_some.mp hz
        have f12 := f1.trans f2
        refine ⟨rl, _, rfl, SqT.of l1, rfl, _, _, rfl, _, _, rfl, _, _, rfl, rfl, ?_⟩
        refine ⟨_, rfl, _, rfl, pn, m, _, room, rfl, SqT.of l2, f12.seqT tH hM, f2.tabs T iT, fun H4 t4 k4 => ?_⟩
        have f4 := f2.trans (Fw.step f2.tabs iT k4 t4)
        refine ⟨_, rfl, ite2 (fun e => ?_) (fun e => ?_)⟩
        · have f14 := f1.trans f4
          have hq := q H4 ks f14 sr
          rw [find_at no hk e] at hq
          exact ⟨_, rfl, hq⟩
        · refine ⟨_, _, _, rfl, f4, fun j x hj hx => ?_⟩
          rcases Nat.lt_succ_iff_lt_or_eq.mp hj with h | h
          · exact no j x h hx
          · rw [h, hk] at hx
            cases hx
            exact eq_false_of_ne_true e
      · obtain ⟨y2, y3, y4, rfl, f2, no⟩ := p
        refine ⟨ks, f1.trans f2, sr, find_no fun x hx => ?_⟩
        obtain ⟨j, hj⟩ := List.mem_iff_getElem?.mp hx
        by_cases c : j < ls.length
        · exact no j x (by rw [List.length_map]; exact c) hj
        · have hl : j < ks.length := (List.getElem?_eq_some_iff.mp hj).1
          refine last_fits sr nn ?_
          rw [List.getLast?_eq_getElem?, show ks.length - 1 = j by omega]
          exact hj
    · obtain ⟨ks, f1, sr, no⟩ := hm
      have hq := q H' ks f1 sr
      rw [no] at hq
      exact hq
end
end My

namespace My
open PySem PySem.Spec PyProof.Rows L2 GX GxR
def methS (i j : Nat) : Stmt := (mbody (topS i)).getD j (.Pass ⟨0, 0, 0, 0⟩)
abbrev s_scERows : Stmt := methS 27 8
abbrev n_scERows : List Str := ["self", "key"]
theorem scERows : FnScope n_scERows ["self"] (defScope s_scERows) := ⟨rfl, rfl, rfl, by decide +kernel, rfl, by decide +kernel, by decide +kernel⟩
abbrev s_scWRoom : Stmt := methS 27 11
abbrev n_scWRoom : List Str := ["self"]
theorem scWRoom : FnScope n_scWRoom ["self"] (defScope s_scWRoom) := ⟨rfl, rfl, rfl, by decide +kernel, rfl, by decide +kernel, by decide +kernel⟩
section
variable {P : Program} {w : World} {K : PySem.W.Frag} {mg : Str → Option Value} {base : Heap} {C : Addr}
theorem ok_erows {f : Addr} {fd : FuncData} {k : Nat} (F : Fun K "entry_rows" "Book.entry_rows" s_scERows f fd) (mSorted : mg "sorted" = none) (c : BCls K C) : FnOk P w K mg base CX0 (k + 1) f fd ["self"] (spERows K C) := by
  refine F.ok scERows (fun vs H Q E h => ?_) (fun cdv A outer s H vs Q E hr h => ?_)
  · obtain ⟨a, dx, m, d, lv, ps, room, rs, rfl, _⟩ := h
    rfl
  · obtain ⟨a, dx, m, d, lv, ps, room, rs, rfl, B, q⟩ := h
    refine ⟨_, (pss_one (ps_ret (pe_lc (own := [("key", 1)]) (g := (gName 1)) (tt := tYes) (te := (tDGet (tFld K (tVar 0) "entries") (tVar 1))) rfl scERows.nd (pi_list (pe_callB (SX.cr_sortDk rfl hr.units) (by rfl) mSorted (by decide +kernel) (pa_cons (pe_fld (pv 0) (by rfl)) pa_nil))) (blkOk_by (own := [("key", 1)]) (N := n_scERows) (sc := defScope s_scERows) (by decide +kernel)) (fun _ _ _ _ _ => (pg_name (i := 1) scERows.nd rfl (.inl rfl))) (fun _ _ _ _ _ => pts_nil) (fun _ _ _ _ _ => (pe_dget (hu_of hr) (pe_fld (pv 0) (by rfl)) (pv 1) (fun _ _ => rfl)))))), ?_⟩
    refine ⟨_, rfl, a, C, dx, _, .ref d, rfl, B.obj, c.cls, c.entries, rfl, d, ps, rs.map (·.key), rfl, Rd.of B.en, en_keys B.prs, by rw [List.length_map]; have := B.few; omega, fun ys p pm so np => ?_⟩
    have ly : ys.length = rs.length := by rw [pm.length_eq, List.length_map]
    have few := B.few
    have s1 : Same H (upd H p (.lst (ys.map V.str))) := same_upd np
    have e1 : upd H p (.lst (ys.map V.str)) p = some (.lst (ys.map V.str)) := upd_same
    generalize upd H p (.lst (ys.map V.str)) = H1 at s1 e1 ⊢
    have B1 := B.same s1
    refine ⟨p, rfl, ⟨_, SqL.of e1⟩, fun D nD => ?_⟩
    refine lc_list (K := K) (a := p) (xs := ys.map V.str) (fun i H' => Same H1 H' ∧ ∃ (as : List Addr) (ss : List Bw), H' D = some (.lst (as.map V.ref)) ∧ Paired (BwAt H') as ss ∧ ss.map (·.key) = ys.take i ∧ ∀ x ∈ ss, x ∈ rs)
      ⟨same_upd nD, [], [], upd_same, .nil, rfl, fun _ h => (nomatch h)⟩ (fun i H' _ p => SqL.of (p.1 _ _ e1)) (fun i x H2 hx p => ?_) (fun H2 p => ?_)
    · obtain ⟨p1, as, ss, p2, p3, p4, p5⟩ := p
      obtain ⟨z, hz, rfl⟩ := map_get hx
      have hi : i < ys.length := (List.getElem?_eq_some_iff.mp hz).1
      have B2 := B1.same p1
      obtain ⟨r, y, v1, v2, v3, v4⟩ := B2.get (pm.mem_iff.mp (List.mem_of_getElem? hz))
      have kt : KTu H2 (upd H2 D (.lst (as.map V.ref ++ [.ref r]))) := kt_put p2 (fun xs z => by cases z)
      have l4 := congrArg List.length p4
      have l3 := p3.length
      rw [List.length_map, List.length_take] at l4
      refine ⟨rfl, ?_⟩
      refine ⟨_, rfl, a, C, dx, _, .ref d, rfl, B2.obj, c.cls, c.entries, rfl, _, rfl, d, .ref r, rfl, dgetR (Rd.of B2.en) v1, ?_⟩
      refine ⟨_, p2, ?_, same_put p1 nD, as ++ [r], ss ++ [y], ?_, Paired.snoc (p3.mono fun _ _ x => x.kt kt) (v2.kt kt), ?_, fun x hx => ?_⟩
      · rw [List.length_map]
        exact small63 (by omega)
      · rw [upd_same, List.map_append]
        rfl
      · rw [List.map_append, p4, List.take_add_one, hz, ← v4]
        rfl
      · rcases List.mem_append.mp hx with z | z
        · exact p5 x z
        · rw [List.mem_singleton.mp z]
          exact v3
    · obtain ⟨p1, as, ss, p2, p3, p4, p5⟩ := p
      rw [List.length_map, List.take_length] at p4
      exact q D H2 as ss (s1.trans p1) (s1.free nD) p2 p3 ⟨perm_keys B.nd pm p4 p5, by rw [p4]; exact so⟩
theorem ok_wroom {f : Addr} {fd : FuncData} {k : Nat} (F : Fun K "whole_room" "Book.whole_room" s_scWRoom f fd) (c : BCls K C) : FnOk P w K mg base CX0 (k + 1) f fd ["self"] (spWRoom C) := by
  refine F.ok scWRoom (fun vs H Q E h => ?_) (fun cdv A outer s H vs Q E hr h => ?_)
  · obtain ⟨a, dx, m, d, lv, rfl, _⟩ := h
    rfl
  · obtain ⟨a, dx, m, d, lv, rfl, o, q⟩ := h
    refine ⟨_, (pss_one (ps_ret (pe_fld (pv 0) (by rfl)))), ?_⟩
    exact ⟨_, rfl, a, C, dx, _, .ref m, rfl, o, c.cls, c.room, rfl, q⟩
end
end My

namespace My
open PySem PySem.Spec PyProof.Rows L2 GX GxR
abbrev s_scEOf : Stmt := methS 27 13
abbrev n_scEOf : List Str := ["self", "key"]
theorem scEOf : FnScope n_scEOf ["self", "key"] (defScope s_scEOf) := ⟨rfl, rfl, rfl, by decide +kernel, rfl, by decide +kernel, by decide +kernel⟩
abbrev s_scDrop : Stmt := methS 27 4
abbrev n_scDrop : List Str := ["self", "key"]
theorem scDrop : FnScope n_scDrop ["self", "key"] (defScope s_scDrop) := ⟨rfl, rfl, rfl, by decide +kernel, rfl, by decide +kernel, by decide +kernel⟩
abbrev s_scKeep : Stmt := methS 27 14
abbrev n_scKeep : List Str := ["self", "entry", "key", "others", "time", "row"]
theorem scKeep : FnScope n_scKeep ["self", "entry"] (defScope s_scKeep) := ⟨rfl, rfl, rfl, by decide +kernel, rfl, by decide +kernel, by decide +kernel⟩
abbrev s_scPut : Stmt := methS 27 1
abbrev n_scPut : List Str := ["self", "key", "begin", "end", "amount"]
theorem scPut : FnScope n_scPut ["self", "key", "begin", "end", "amount"] (defScope s_scPut) := ⟨rfl, rfl, rfl, by decide +kernel, rfl, by decide +kernel, by decide +kernel⟩
abbrev s_scStretch : Stmt := methS 27 3
abbrev n_scStretch : List Str := ["self", "key", "end", "begin", "old_end", "amount"]
theorem scStretch : FnScope n_scStretch ["self", "key", "end"] (defScope s_scStretch) := ⟨rfl, rfl, rfl, by decide +kernel, rfl, by decide +kernel, by decide +kernel⟩
abbrev s_scCut : Stmt := methS 27 2
abbrev n_scCut : List Str := ["self", "key", "time", "begin", "end", "amount"]
theorem scCut : FnScope n_scCut ["self", "key", "time"] (defScope s_scCut) := ⟨rfl, rfl, rfl, by decide +kernel, rfl, by decide +kernel, by decide +kernel⟩
abbrev s_scPast : Stmt := methS 27 5
abbrev n_scPast : List Str := ["self", "time", "key", "past", "begin", "end", "amount"]
theorem scPast : FnScope n_scPast ["self", "time"] (defScope s_scPast) := ⟨rfl, rfl, rfl, by decide +kernel, rfl, by decide +kernel, by decide +kernel⟩
abbrev s_scInit : Stmt := methS 27 0
abbrev n_scInit : List Str := ["self", "room"]
theorem scInit : FnScope n_scInit ["self", "room"] (defScope s_scInit) := ⟨rfl, rfl, rfl, by decide +kernel, rfl, by decide +kernel, by decide +kernel⟩
section
variable {P : Program} {w : World} {K : PySem.W.Frag} {mg : Str → Option Value} {base : Heap} {C : Addr}
theorem ok_eof {f N : Addr} {fd : FuncData} {k : Nat} (F : Fun K "entry_of" "Book.entry_of" s_scEOf f fd) (c : BCls K C) (xNoKey : ExcP K mg "NoKey" N) : FnOk P w K mg base (L2.CX P w) (k + 1) f fd ["self", "key"] (spEOf C N) := by
  refine F.okX scEOf (fun vs H Q E h => ?_) (fun cdv A outer s H vs Q E hr h => ?_)
  · obtain ⟨a, dx, m, d, lv, ps, room, rs, z, rfl, _⟩ := h
    rfl
  · obtain ⟨a, dx, m, d, lv, ps, room, rs, z, rfl, B, hz, q, qe⟩ := h
    refine ⟨_, (C8.pss_cut (ps_if (pt_cmp (pc_dnotin (hu_of hr) (pv 1) (pe_fld (pv 0) (by rfl))))
        (pss_one (ps_raise rfl (takes_of rfl rfl rfl rfl) (SkE.pmk_own1 PySem.F.excBase_ValueError xNoKey.x xNoKey.g xNoKey.k (raises_own xNoKey.b xNoKey.t) rfl (pe_joined (PJ.cons pe_str (PJ.cons (pe_fmt (pv 1)) PJ.nil))))))
        pss_nil)
      (pss_one (ps_ret (pe_dget (hu_of hr) (pe_fld (pv 0) (by rfl)) (pv 1) (fun _ _ => rfl))))), ?_⟩
    refine ⟨fun σ H' => σ = [some (.ref a), some (.str z)] ∧ H' = H ∧ ∃ v, valV ps (Sum.inr z) = some v, ?_, fun σ H' hm => ?_⟩
    · refine ⟨_, rfl, _, rfl, a, C, dx, _, .ref d, rfl, B.obj, c.cls, c.entries, rfl, d, valV ps (Sum.inr z), rfl, .inl ⟨ps, Sum.inr z, Rd.of B.en, rfl, rfl⟩, _, rfl, ite2 (fun e => ?_) (fun e => ?_)⟩
      · cases ho : valV ps (Sum.inr z) with
        | some v => rw [ho] at e; cases e
        | none =>
          refine ⟨_, rfl, by decide +kernel, _, rfl, .inl ⟨z, rfl, ?_, _, rfl, ?_, qe (B.none ho)⟩⟩
          · exact Nat.le_trans hz (by decide)
          · rw [Str.length_append]
            exact Nat.le_trans (Nat.add_le_add_left hz _) (by decide +kernel)
      · cases ho : valV ps (Sum.inr z) with
        | some v => exact ⟨rfl, rfl, v, rfl⟩
        | none => rw [ho] at e; exact absurd rfl e
    · obtain ⟨rfl, rfl, v, hv⟩ := hm
      obtain ⟨r, x, h1, h2, h3, h4⟩ := B.get (B.some hv)
      exact ⟨_, rfl, a, C, dx, _, .ref d, rfl, B.obj, c.cls, c.entries, rfl, _, rfl, d, .ref r, rfl, dgetR (Rd.of B.en) h1, q r x h1 h2 h3 h4⟩
theorem ok_drop {f fE N : Addr} {fd fdE : FuncData} {k : Nat} (F : Fun K "drop_entry" "Book.drop_entry" s_scDrop f fd) (c : BCls K C)
    (GE : FnOk P w K mg base (L2.CX P w) k fE fdE ["self", "key"] (spEOf C N)) (ME : Meth K C "entry_of" fE) (bE : L2.Binds K fdE ["self", "key"] []) :
    FnOk P w K mg base (L2.CX P w) (k + 1) f fd ["self", "key"] (spDrop C N) := by
  have cB := c.cls
  refine F.okX scDrop (fun vs H Q E h => ?_) (fun cdv A outer s H vs Q E hr h => ?_)
  · obtain ⟨a, dx, m, d, lv, ps, room, rs, z, rfl, _⟩ := h
    rfl
  · obtain ⟨a, dx, m, d, lv, ps, room, rs, z, rfl, B, hz, q, qe⟩ := h
    refine ⟨_, (pss_cons (ps_expr (pe_meth (pv 0) cB ME GE hr bE .nil (passes_call (takes_of rfl rfl rfl rfl) (fun _ _ _ _ h => h)) (pa_cons (pv 1) pa_nil)))
      (pss_cons (ps_ddel (pe_fld (pv 0) (by rfl)) (pv 1))
      (pss_one (ps_fld (pv 0) pe_non rfl)))), ?_⟩
    refine ⟨_, rfl, a, dx, _, rfl, B.obj, rfl, _, rfl, a, dx, m, d, lv, ps, room, rs, z, rfl, B, hz, fun r x h1 h2 h3 h4 => ?_, qe⟩
    have hk : z ∈ rs.map (·.key) := List.mem_map.mpr ⟨x, h3, h4⟩
    have sub : (rs.filter fun x => decide (x.key ≠ z)).Sublist rs := List.filter_sublist
    obtain ⟨k1, B1⟩ := B.set (drop_pairs (z := z) B.prs) (B.nd.sublist (sub.map _)) (Nat.lt_of_le_of_lt sub.length_le B.few) ⟨Nat.le_trans sub.length_le B.ok.few, fun x hx => B.ok.lt x (sub.subset hx), fun x hx => B.ok.len x (sub.subset hx)⟩
    refine ⟨_, rfl, a, C, dx, _, .ref d, rfl, B.obj, c.cls, c.entries, rfl, _, rfl, d, ps, Sum.inr z, rfl, B.en, rfl, by rw [h1]; rfl, ?_⟩
    refine ⟨_, rfl, a, C, dx, _, rfl, by rw [upd_ne B.ad.1]; exact B.obj, c.cls, c.lefts, by show 3 < 1000; decide, ?_⟩
    exact q hk _ _ k1 B1
set_option maxHeartbeats 2000000 in
theorem ok_keep {f fO TM fI : Addr} {fd fdO fdI : FuncData} {k : Nat} {Ts : List Addr} (F : Fun K "keep_entry" "Book.keep_entry" s_scKeep f fd) (c : BCls K C) (xTooMuch : ExcT P w K mg base k TM fI fdI)
    (GO : FnOk P w K mg base CX0 (k + 1) fO fdO ["room", "rows"] (spOver K Ts)) (mO : mg "first_over" = some (.ref fO)) (kO : PySem.W.keepIn K (.ref fO) = true) (bO : L2.Binds K fdO ["room", "rows"] []) :
    FnOk P w K mg base (L2.CX P w) (k + 1 + 1) f fd ["self", "entry"] (spKeep K Ts C TM) := by
  refine F.okX scKeep (fun vs H Q E h => ?_) (fun cdv A outer s H vs Q E hr h => ?_)
  · obtain ⟨a, dx, m, d, lv, ps, room, rs, r, x, rfl, _⟩ := h
    rfl
  · obtain ⟨a, dx, m, d, lv, ps, room, rs, r, x, rfl, B, bx, kl, okW, few, okP, nn, bnd, tH, q, qe⟩ := h
    refine ⟨_, (pss_cons (ps_set (i := 2) scKeep.nd rfl (.inr rfl) (pe_ix ix_tup (pv 1) pe_int (fun _ _ => rfl)))
      (pss_cons (ps_lock (ps_setLc (i := 3) (own := [("row", 5)]) (g := (gName 5)) rfl scKeep.nd rfl rfl (sw_true rfl rfl rfl (by decide +kernel)) (pi_values (pe_fld (pv 0) (by rfl))) (blkOk_by (own := [("row", 5)]) (N := n_scKeep) (sc := defScope s_scKeep) (by decide +kernel)) (fun _ _ _ _ _ => (pg_name (i := 5) scKeep.nd rfl (.inl rfl))) (fun _ _ _ _ _ => pts_one (pt_cmpR op_ne (pe_ix (r := rIxT K) ix_tup (pv 5) pe_int (fun _ _ => rfl)) (pv 2) (nomark _))) (fun _ _ _ _ _ => (pv 5))))
      (pss_cons (ps_set (i := 4) scKeep.nd rfl (.inl rfl) (pe_call GO hr (by rfl) mO kO bO .nil pass0 (pa_cons (pe_fld (pv 0) (by rfl)) (pa_cons (pe_op op_cat (pv 3) (pe_lst (pa_cons (pv 1) pa_nil))) pa_nil))))
      (C8.pss_cut (ps_if (pt_cmpR op_notN (pv 4) pe_non (nomark _))
        (pss_one (ps_raise rfl (takes_of rfl rfl rfl rfl) (XI.pmk_initE (f := "time") (mono_two (mono_joined4 mono_C (mono_fmt mono_var) mono_C (mono_fmt mono_var)) mono_var) xTooMuch.T xTooMuch.iC xTooMuch.tI xTooMuch.F hr xTooMuch.b pass0 rfl xTooMuch.g (pa_cons (pe_joined (PJ.cons pe_str (PJ.cons (pe_fmt (pv 2)) (PJ.cons pe_str (PJ.cons (pe_fmt (pv 4)) PJ.nil))))) (pa_cons (pv 4) pa_nil)))))
        pss_nil)
      (pss_cons (ps_dput (hu_of hr) (pe_fld (pv 0) (by rfl)) (pv 2) (pv 1) rfl)
      (pss_one (ps_fld (pv 0) pe_non rfl))))))), ?_⟩
    obtain ⟨am, x1, x2⟩ := bx
    obtain ⟨ad, ma, md⟩ := B.ad
    refine ⟨_, rfl, r, _, 0, .str x.key, rfl, rfl, SqT.of x1, rfl, ?_⟩
    -- the others
    refine ⟨d, _, B.en, trivial, fun od => ?_⟩
    have kd : KTu H (upd H d (.frz od (.dK ps))) := kt_put B.en (fun xs z => by cases z)
    have pr1 : Paired (EnAt (upd H d (.frz od (.dK ps)))) ps rs := B.prs.mono fun _ _ x => x.kt kd
    have obj1 : upd H d (.frz od (.dK ps)) a = some (.ins C dx (flds m d lv)) := by
      rw [upd_ne ad]
      exact B.obj
    have ed1 : upd H d (.frz od (.dK ps)) d = some (.frz od (.dK ps)) := upd_same
    have k1 : Kp [d] H (upd H d (.frz od (.dK ps))) := kp_lock
    generalize upd H d (.frz od (.dK ps)) = H1 at kd pr1 obj1 ed1 k1 ⊢
    refine ⟨_, rfl, a, C, dx, _, .ref d, rfl, obj1, c.cls, c.entries, rfl, d, od, ps, rfl, ed1, fun D nD => ?_⟩
    have lp : ps.length = rs.length := B.prs.length
    have fw := B.few
    refine lc_it walk_values (fun i H' => Same H1 H' ∧ ∃ as : List Addr, H' D = some (.lst (as.map V.ref)) ∧ as.length ≤ i ∧ Paired (BwAt H') as ((rs.take i).filter fun y => decide (y.key ≠ x.key)))
      ⟨same_upd nD, [], upd_same, Nat.le_refl _, .nil⟩ (fun i H' _ p => p.1 _ _ ed1) (fun i v H2o H2 hi p y => ?_) (fun H2 p => ?_)
    · obtain ⟨p1, as, p2, p3, p4⟩ := p
      obtain ⟨rfl, key, hk⟩ := y
      obtain ⟨R, hR, h1, ry, h2, hy⟩ := paired_get pr1 hk
      have h2' : v = .ref ry := h2
      subst h2'
      have hy2 := hy.kt (Same.kt p1)
      obtain ⟨ay, y1, y2⟩ := hy2
      have tk : (rs.take (i + 1)).filter (fun y => decide (y.key ≠ x.key)) = (rs.take i).filter (fun y => decide (y.key ≠ x.key)) ++ (if R.key ≠ x.key then [R] else []) := by
        rw [List.take_add_one, hR, List.filter_append]
        congr 1
        show List.filter _ [R] = _
        rw [List.filter_cons]
        by_cases e : R.key = x.key
        · rw [if_neg (by rw [decide_eq_true_eq]; exact fun q => q e), if_neg (fun q => q e)]
          rfl
        · rw [if_pos (decide_eq_true e), if_pos e]
          rfl
      refine ⟨rfl, ?_⟩
      refine ⟨_, rfl, ry, _, 0, .str R.key, rfl, rfl, SqT.of y1, rfl, _, rfl, rfl, _, rfl, ite2 (fun e => ?_) (fun e => ?_)⟩
      · have ne : R.key ≠ x.key := fun z => by
          rw [z] at e
          simp at e
        have kt : KTu H2 (upd H2 D (.lst (as.map V.ref ++ [.ref ry]))) := kt_put p2 (fun xs z => by cases z)
        refine ⟨_, rfl, _, p2, ?_, same_put p1 nD, as ++ [ry], ?_, ?_, ?_⟩
        · rw [List.length_map]
          exact small63 (by omega)
        · rw [upd_same, List.map_append]
          rfl
        · rw [List.length_append]
          show as.length + 1 ≤ i + 1
          omega
        · rw [tk, if_pos ne]
          exact Paired.snoc (p4.mono fun _ _ x => x.kt kt) (BwAt.kt kt ⟨ay, y1, y2⟩)
      · have eq : R.key = x.key := by
          by_cases z : R.key = x.key
          · exact z
          · exact absurd (by simp [z]) e
        refine ⟨p1, as, p2, by omega, ?_⟩
        rw [tk, if_neg (fun q => q eq), List.append_nil]
        exact p4
    obtain ⟨p1, as, p2, p3, p4⟩ := p
    rw [lp, List.take_length] at p4
    refine ⟨p1 _ _ ed1, ?_⟩
    have s3 : Same H (upd H2 d (.dK ps)) := unlock_same B.en (k1.trans (Same.kp _ p1))
    have Dd : D ≠ d := fun z => by
      rw [z, ed1] at nD
      cases nD
    have nDH : H D = none := kp_free k1 Dd nD
    have eD3 : upd H2 d (.dK ps) D = some (.lst (as.map V.ref)) := by
      rw [upd_ne Dd]
      exact p2
    have pr3 : Paired (BwAt (upd H2 d (.dK ps))) as (rs.filter fun y => decide (y.key ≠ x.key)) := p4.mono fun _ _ x => x.kt (kt_put (p1 _ _ ed1) (fun xs z => by cases z))
    generalize upd H2 d (.dK ps) = H3 at s3 eD3 pr3 ⊢
    have B3 := B.same s3
    have bx3 : BwAt H3 r x := ⟨am, s3 _ _ x1, s3 _ _ x2⟩
    -- all of them
    refine ⟨_, rfl, a, C, dx, _, .ref m, rfl, B3.obj, c.cls, c.room, rfl, _, rfl, _, rfl, by show 1 ≤ sizeLine; decide, fun l1 n1 => ?_⟩
    refine ⟨D, l1, _, _, rfl, rfl, same_upd n1 _ _ eD3, upd_same, ?_, fun p5 np5 => ?_⟩
    · rw [List.length_map]
      show as.length + 1 ≤ sizeLine
      exact small63 (by omega)
    have s5 : Same H3 (upd (upd H3 l1 (.lst [.ref r])) p5 (.lst (as.map V.ref ++ [.ref r]))) := (same_upd n1).trans (same_upd np5)
    have e5 : upd (upd H3 l1 (.lst [.ref r])) p5 (.lst (as.map V.ref ++ [.ref r])) p5 = some (.lst ((as ++ [r]).map V.ref)) := by
      rw [upd_same, List.map_append]
      rfl
    generalize upd (upd H3 l1 (.lst [.ref r])) p5 (.lst (as.map V.ref ++ [.ref r])) = H5 at s5 e5 ⊢
    have s05 := s3.trans s5
    have B5 := B.same s05
    have f5 := Fw.same tH s05
    refine ⟨m, p5, room, as ++ [r], withX rs x, rfl, SqT.of B5.rm, SqL.of e5, Paired.snoc (pr3.mono fun _ _ x => x.kt (Same.kt s5)) (bx3.kt (Same.kt s5)), okW, B.r1, B.r20, nn, f5.tabs, fun H6 ks f6 sr => ?_⟩
    have f06 := f5.trans f6
    have t5 := f5.tabs
    have obj6 : H6 a = some (.ins C dx (flds m d lv)) := f6.obj t5 B5.obj fun ps z => by cases z
    have en6 : H6 d = some (.dK ps) := f6.obj t5 B5.en fun ps z => by cases z
    have kt6 := f6.kt t5
    have B6 : BookAt H6 C a dx m d lv ps room rs := ⟨obj6, kt6 _ _ B5.rm, en6, B5.prs.mono fun _ _ x => x.kt kt6, B.nd, B.few, B.ok, B.r1, B.r20⟩
    have bx6 : BwAt H6 r x := (bx3.kt (Same.kt s5)).kt kt6
    refine ⟨fun σ H' => σ = [some (.ref a), some (.ref r), some (.str x.key), some (.ref D), some .non, none] ∧ H' = H6 ∧ ks.find? (ovr room.length (withX rs x) room) = none, ?_, fun σ H' hm => ?_⟩
    · refine ⟨_, rfl, rfl, _, rfl, ite2 (fun e => ?_) (fun e => ?_)⟩
      · cases ho : ks.find? (ovr room.length (withX rs x) room) with
        | none => rw [ho] at e; simp [oI] at e
        | some t =>
          have tb : t.natAbs.log2 < 1920 := by
            obtain ⟨y, hy, ey⟩ := (sr.2 t).mp (List.mem_of_find?_eq_some ho)
            rcases ey with ey | ey
            · rw [← ey]; exact (bnd y hy).1
            · rw [← ey]; exact (bnd y hy).2
          have tl : (Str.ofString (toString t)).length ≤ 2000 := by
            have e := int_text_length_le (k := 1920) (by decide) tb
            rw [PySem.ofString_length]
            omega
          have big : 3000 ≤ sizeLine := by decide
          refine ⟨_, rfl, by decide +kernel, _, rfl, .inl ⟨x.key, rfl, by omega, _, rfl, ?_, _, rfl, ?_, _, rfl, .inr ⟨t, by rfl, tb, _, rfl, ?_, _, rfl, _, _, rfl, fun dE nE => ?_⟩⟩⟩
          · rw [Str.length_append]
            exact Nat.le_trans (Nat.add_le_add_left kl _) (by decide +kernel)
          · rw [Str.length_append, Str.length_append]
            exact Nat.le_trans (Nat.add_le_add_right (Nat.add_le_add_left kl _) _) (by decide +kernel)
          · rw [Str.length_append, Str.length_append, Str.length_append]
            exact Nat.le_trans (Nat.add_le_add (Nat.add_le_add_right (Nat.add_le_add_left kl _) _) tl) (by decide +kernel)
          · exact qe _ ks t dE sr ho (f06.then (same_upd nE)) (f06.free tH nE) upd_same
      · cases ho : ks.find? (ovr room.length (withX rs x) room) with
        | none => exact ⟨rfl, rfl, rfl⟩
        | some t => rw [ho] at e; exact absurd (by simp [oI]) e
    obtain ⟨rfl, rfl, no⟩ := hm
    obtain ⟨k7, B7⟩ := B6.set (put_pairs bx6 B6.prs) (putR_nd B.nd) few okP
    refine ⟨_, rfl, _, rfl, a, C, dx, _, .ref d, rfl, obj6, c.cls, c.entries, rfl, _, rfl, d, _, rfl, DPut.k (k := (Sum.inr x.key : Key)) en6 (small63 (by omega)), ?_⟩
    refine ⟨_, rfl, a, C, dx, _, rfl, by rw [upd_ne ad]; exact obj6, c.cls, c.lefts, by show 3 < 1000; decide, ?_⟩
    refine q _ ks _ sr no ?_ ?_ B7
    · exact fun y o ny e => k7 _ _ (fun z => ny (by
        rcases List.mem_cons.mp z with z | z
        · rw [z]; exact List.mem_cons_self
        · rw [List.mem_singleton.mp z]; exact List.mem_cons_of_mem _ List.mem_cons_self)) (f06.kp _ _ (fun z => ny (List.mem_cons_of_mem _ (List.mem_cons_of_mem _ z))) e)
    · exact fun T hT => TabG.kp k7 (fun z => by
        obtain ⟨pp, h1, _⟩ := f06.tabs T hT
        rcases List.mem_cons.mp z with z | z
        · rw [z, obj6] at h1; cases h1
        · rw [List.mem_singleton.mp z, en6] at h1; cases h1) (f06.tabs T hT)
theorem ok_put {f fK TM TK : Addr} {fd fdK : FuncData} {k : Nat} {Ts : List Addr} (F : Fun K "put_entry" "Book.put_entry" s_scPut f fd) (c : BCls K C) (xTaken : ExcP K mg "Taken" TK)
    (GK : FnOk P w K mg base (L2.CX P w) k fK fdK ["self", "entry"] (spKeep K Ts C TM)) (MK : Meth K C "keep_entry" fK) (bK : L2.Binds K fdK ["self", "entry"] []) :
    FnOk P w K mg base (L2.CX P w) (k + 1) f fd ["self", "key", "begin", "end", "amount"] (spPut K Ts C TM TK) := by
  have cB := c.cls
  refine F.okX scPut (fun vs H Q E h => ?_) (fun cdv A outer s H vs Q E hr h => ?_)
  · obtain ⟨a, dx, m, d, lv, ps, room, rs, p, x, rfl, _⟩ := h
    rfl
  · obtain ⟨a, dx, m, d, lv, ps, room, rs, p, x, rfl, B, hp, hz, qe, q⟩ := h
    refine ⟨_, (C8.pss_cut (ps_if (pt_cmp (pc_din (hu_of hr) (pv 1) (pe_fld (pv 0) (by rfl))))
        (pss_one (ps_raise rfl (takes_of rfl rfl rfl rfl) (SkE.pmk_own1 PySem.F.excBase_ValueError xTaken.x xTaken.g xTaken.k (raises_own xTaken.b xTaken.t) rfl (pe_joined (PJ.cons pe_str (PJ.cons (pe_fmt (pv 1)) PJ.nil))))))
        pss_nil)
      (pss_one (ps_expr (pe_meth (pv 0) cB MK GK hr bK .nil (passes_call (takes_of rfl rfl rfl rfl) (fun _ _ _ _ h => h)) (pa_cons (pe_tup (pa_cons (pv 1) (pa_cons (pv 2) (pa_cons (pv 3) (pa_cons (pv 4) pa_nil))))) pa_nil))))), ?_⟩
    refine ⟨fun σ H' => σ = [some (.ref a), some (.str x.key), some (.int x.b), some (.int x.e), some (.ref p)] ∧ H' = H ∧ x.key ∉ rs.map (·.key), ?_, fun σ H' hm => ?_⟩
    · refine ⟨_, rfl, _, rfl, a, C, dx, _, .ref d, rfl, B.obj, c.cls, c.entries, rfl, d, valV ps (Sum.inr x.key), rfl, .inl ⟨ps, Sum.inr x.key, Rd.of B.en, rfl, rfl⟩, _, rfl, ite2 (fun e => ?_) (fun e => ?_)⟩
      · cases ho : valV ps (Sum.inr x.key) with
        | none => rw [ho] at e; cases e
        | some v =>
          refine ⟨_, rfl, by decide +kernel, _, rfl, .inl ⟨x.key, rfl, ?_, _, rfl, ?_, qe (B.some ho)⟩⟩
          · exact Nat.le_trans hz (by decide)
          · rw [Str.length_append]
            exact Nat.le_trans (Nat.add_le_add_left hz _) (by decide +kernel)
      · cases ho : valV ps (Sum.inr x.key) with
        | none => exact ⟨rfl, rfl, B.none ho⟩
        | some v => rw [ho] at e; exact absurd rfl e
    · obtain ⟨rfl, rfl, hn⟩ := hm
      refine ⟨_, rfl, a, dx, _, rfl, B.obj, rfl, _, rfl, _, rfl, _, rfl, _, rfl, by show 4 ≤ sizeLine; decide, fun T nT => ?_⟩
      exact ⟨a, dx, m, d, lv, ps, room, rs, T, x, rfl, B.same (same_upd nT), ⟨p, upd_same, same_upd nT _ _ hp⟩, (q hn).same (same_upd nT) (fun _ h => h) (fun _ _ _ h => h)⟩
theorem ok_stretch {f fE fK TM N : Addr} {fd fdE fdK : FuncData} {k : Nat} {Ts : List Addr} (F : Fun K "stretch_entry" "Book.stretch_entry" s_scStretch f fd) (c : BCls K C)
    (GE : FnOk P w K mg base (L2.CX P w) k fE fdE ["self", "key"] (spEOf C N)) (ME : Meth K C "entry_of" fE) (bE : L2.Binds K fdE ["self", "key"] [])
    (GK : FnOk P w K mg base (L2.CX P w) k fK fdK ["self", "entry"] (spKeep K Ts C TM)) (MK : Meth K C "keep_entry" fK) (bK : L2.Binds K fdK ["self", "entry"] []) :
    FnOk P w K mg base (L2.CX P w) (k + 1) f fd ["self", "key", "end"] (spStretch K Ts C TM N) := by
  have cB := c.cls
  refine F.okX scStretch (fun vs H Q E h => ?_) (fun cdv A outer s H vs Q E hr h => ?_)
  · obtain ⟨a, dx, m, d, lv, ps, room, rs, z, e, rfl, _⟩ := h
    rfl
  · obtain ⟨a, dx, m, d, lv, ps, room, rs, z, e, rfl, B, hz, qe, q⟩ := h
    refine ⟨_, (pss_cons (ps_asg (pe_slice sl_tup (pe_meth (pv 0) cB ME GE hr bE .nil (passes_call (takes_of rfl rfl rfl rfl) (fun _ _ _ _ h => h)) (pa_cons (pv 1) pa_nil)) (po_some pe_int) po_none) (pg_tup rfl (pgs_cons (pg_name (i := 3) scStretch.nd rfl (.inl rfl)) (pgs_cons (pg_name (i := 4) scStretch.nd rfl (.inl rfl)) (pgs_cons (pg_name (i := 5) scStretch.nd rfl (.inl rfl)) pgs_nil)))))
      (pss_one (ps_if (pt_cmpR op_lt (pv 4) (pv 2) (nomark _))
        (pss_one (ps_expr (pe_meth (pv 0) cB MK GK hr bK .nil (passes_call (takes_of rfl rfl rfl rfl) (fun _ _ _ _ h => h)) (pa_cons (pe_tup (pa_cons (pv 1) (pa_cons (pv 3) (pa_cons (pv 2) (pa_cons (pv 5) pa_nil))))) pa_nil))))
        pss_nil))), ?_⟩
    refine ⟨_, rfl, a, dx, _, rfl, B.obj, rfl, _, rfl, a, dx, m, d, lv, ps, room, rs, z, rfl, B, hz, fun r x h1 h2 h3 h4 => ?_, qe⟩
    obtain ⟨am, x1, x2⟩ := h2
    subst h4
    obtain ⟨q1, q2⟩ := q x h3 rfl
    refine ⟨1, rfl, r, _, rfl, SqT.of x1, (by show ¬ (HT.sIx 4 0 (some 1) = 0 ∧ HT.sIx 4 4 none = 4); decide), fun p np => ?_⟩
    rw [show cutV [V.str x.key, .int x.b, .int x.e, .ref am] (some 1) none = [V.int x.b, .int x.e, .ref am] from cut_drop _ 1]
    have s1 : Same H (upd H p (.tup [.int x.b, .int x.e, .ref am])) := same_upd np
    refine ⟨p, _, rfl, SqT.of upd_same, rfl, _, _, rfl, _, _, rfl, _, _, rfl, rfl, ?_⟩
    refine ⟨_, rfl, _, rfl, _, _, rfl, rfl, _, rfl, ite2 (fun g => ?_) (fun g => ?_)⟩
    · have g' := of_decide_eq_true g
      refine ⟨_, rfl, a, dx, _, rfl, s1 _ _ B.obj, rfl, _, rfl, _, rfl, _, rfl, _, rfl, by show 4 ≤ sizeLine; decide, fun T nT => ?_⟩
      have s2 := s1.trans (same_upd (o := .tup [.str x.key, .int x.b, .int e, .ref am]) nT)
      exact ⟨a, dx, m, d, lv, ps, room, rs, T, ⟨x.key, x.b, e, x.am⟩, rfl, B.same s2, ⟨am, upd_same, s2 _ _ x2⟩, (q1 g').same s2 (fun _ h => h) (fun _ _ _ h => h)⟩
    · exact q2 (fun z => g (decide_eq_true z)) _ s1
theorem ok_cut {f fE fR N : Addr} {fd fdE fdR : FuncData} {k : Nat} (F : Fun K "cut_entry" "Book.cut_entry" s_scCut f fd) (c : BCls K C)
    (GE : FnOk P w K mg base (L2.CX P w) k fE fdE ["self", "key"] (spEOf C N)) (ME : Meth K C "entry_of" fE) (bE : L2.Binds K fdE ["self", "key"] [])
    (GR : FnOk P w K mg base (L2.CX P w) k fR fdR ["self", "key"] (spDrop C N)) (MR : Meth K C "drop_entry" fR) (bR : L2.Binds K fdR ["self", "key"] []) :
    FnOk P w K mg base (L2.CX P w) (k + 1) f fd ["self", "key", "time"] (spCut C N) := by
  have cB := c.cls
  refine F.okX scCut (fun vs H Q E h => ?_) (fun cdv A outer s H vs Q E hr h => ?_)
  · obtain ⟨a, dx, m, d, lv, ps, room, rs, z, t, rfl, _⟩ := h
    rfl
  · obtain ⟨a, dx, m, d, lv, ps, room, rs, z, t, rfl, B, hz, qe, q⟩ := h
    refine ⟨_, (pss_cons (ps_asg (pe_slice sl_tup (pe_meth (pv 0) cB ME GE hr bE .nil (passes_call (takes_of rfl rfl rfl rfl) (fun _ _ _ _ h => h)) (pa_cons (pv 1) pa_nil)) (po_some pe_int) po_none) (pg_tup rfl (pgs_cons (pg_name (i := 3) scCut.nd rfl (.inl rfl)) (pgs_cons (pg_name (i := 4) scCut.nd rfl (.inl rfl)) (pgs_cons (pg_name (i := 5) scCut.nd rfl (.inl rfl)) pgs_nil)))))
      (pss_one (ps_if (pt_cmpR op_ge (pv 3) (pv 2) (nomark _))
        (pss_one (ps_expr (pe_meth (pv 0) cB MR GR hr bR .nil (passes_call (takes_of rfl rfl rfl rfl) (fun _ _ _ _ h => h)) (pa_cons (pv 1) pa_nil))))
        (pss_one (ps_if (pt_cmpR op_gt (pv 4) (pv 2) (nomark _))
          (pss_cons (ps_dput (hu_of hr) (pe_fld (pv 0) (by rfl)) (pv 1) (pe_tup (pa_cons (pv 1) (pa_cons (pv 3) (pa_cons (pv 2) (pa_cons (pv 5) pa_nil))))) rfl)
          (pss_one (ps_fld (pv 0) pe_non rfl)))
          pss_nil))))), ?_⟩
    refine ⟨_, rfl, a, dx, _, rfl, B.obj, rfl, _, rfl, a, dx, m, d, lv, ps, room, rs, z, rfl, B, hz, fun r x h1 h2 h3 h4 => ?_, qe⟩
    obtain ⟨am, x1, x2⟩ := h2
    subst h4
    have hk : x.key ∈ rs.map (·.key) := List.mem_map.mpr ⟨x, h3, rfl⟩
    obtain ⟨q1, q2, q3⟩ := q x h3 rfl
    refine ⟨1, rfl, r, _, rfl, SqT.of x1, (by show ¬ (HT.sIx 4 0 (some 1) = 0 ∧ HT.sIx 4 4 none = 4); decide), fun p np => ?_⟩
    rw [show cutV [V.str x.key, .int x.b, .int x.e, .ref am] (some 1) none = [V.int x.b, .int x.e, .ref am] from cut_drop _ 1]
    have s1 : Same H (upd H p (.tup [.int x.b, .int x.e, .ref am])) := same_upd np
    refine ⟨p, _, rfl, SqT.of upd_same, rfl, _, _, rfl, _, _, rfl, _, _, rfl, rfl, ?_⟩
    refine ⟨_, rfl, _, rfl, _, _, rfl, rfl, _, rfl, ite2 (fun g => ?_) (fun g => ?_)⟩
    · have g' := of_decide_eq_true g
      refine ⟨_, rfl, a, dx, _, rfl, s1 _ _ B.obj, rfl, _, rfl, a, dx, m, d, lv, ps, room, rs, x.key, rfl, B.same s1, hz, fun _ H' ps' k1 B1 => ?_, fun n => absurd hk n⟩
      exact q1 g' H' ps' ((Same.kp _ s1).trans k1) B1
    · have g' : ¬ t ≤ x.b := fun z => g (decide_eq_true z)
      refine ⟨_, rfl, _, rfl, _, _, rfl, rfl, _, rfl, ite2 (fun g2 => ?_) (fun g2 => ?_)⟩
      · have g2' := of_decide_eq_true g2
        obtain ⟨okP, q2⟩ := q2 (by omega) g2'
        refine ⟨_, rfl, _, rfl, _, rfl, _, rfl, by show 4 ≤ sizeLine; decide, fun T nT => ?_⟩
        have s2 := s1.trans (same_upd (o := .tup [.str x.key, .int x.b, .int t, .ref am]) nT)
        have B2 := B.same s2
        have eT : upd (upd H p (.tup [.int x.b, .int x.e, .ref am])) T (.tup [.str x.key, .int x.b, .int t, .ref am]) T = some (.tup [.str x.key, .int x.b, .int t, .ref am]) := upd_same
        generalize upd (upd H p (.tup [.int x.b, .int x.e, .ref am])) T (.tup [.str x.key, .int x.b, .int t, .ref am]) = H2 at s2 B2 eT ⊢
        have bx2 : BwAt H2 T ⟨x.key, x.b, t, x.am⟩ := ⟨am, eT, s2 _ _ x2⟩
        have lp : ps.length = rs.length := B.prs.length
        have few := B.few
        obtain ⟨k3, B3⟩ := B2.set (put_pairs bx2 B2.prs) (putR_nd B.nd) (by rw [putR_len (x := ⟨x.key, x.b, t, x.am⟩) hk]; exact few) okP
        refine ⟨_, rfl, a, C, dx, _, .ref d, rfl, B2.obj, c.cls, c.entries, rfl, _, rfl, d, _, rfl, DPut.k (k := (Sum.inr x.key : Key)) B2.en (small63 (by omega)), ?_⟩
        refine ⟨_, rfl, a, C, dx, _, rfl, by rw [upd_ne B.ad.1]; exact B2.obj, c.cls, c.lefts, by show 3 < 1000; decide, ?_⟩
        exact q2 _ _ ((Same.kp _ s2).trans k3) B3
      · exact q3 (by omega) (by have : ¬ t < x.e := fun z => g2 (decide_eq_true z); omega) _ s1
set_option maxHeartbeats 1000000 in
theorem ok_past {f fE fR N : Addr} {fd fdE fdR : FuncData} {k : Nat} (F : Fun K "drop_past" "Book.drop_past" s_scPast f fd) (c : BCls K C)
    (GE : FnOk P w K mg base CX0 k fE fdE ["self"] (spERows K C)) (ME : Meth K C "entry_rows" fE) (bE : L2.Binds K fdE ["self"] [])
    (GR : FnOk P w K mg base (L2.CX P w) k fR fdR ["self", "key"] (spDrop C N)) (MR : Meth K C "drop_entry" fR) (bR : L2.Binds K fdR ["self", "key"] []) :
    FnOk P w K mg base (L2.CX P w) (k + 1) f fd ["self", "time"] (spPast K C) := by
  have cB := c.cls
  refine F.okX scPast (fun vs H Q E h => ?_) (fun cdv A outer s H vs Q E hr h => ?_)
  · obtain ⟨a, dx, m, d, lv, ps, room, rs, t, rfl, _⟩ := h
    rfl
  · obtain ⟨a, dx, m, d, lv, ps, room, rs, t, rfl, B, kl, q⟩ := h
    refine ⟨_, (pss_cons (ps_setLc (i := 3) (own := [("key", 2), ("begin", 4), ("end", 5), ("amount", 6)]) (g := (gTup K 4 (gCons (gName 2) (gCons (gName 4) (gCons (gName 5) (gCons (gName 6) gNil)))))) rfl scPast.nd rfl rfl (sw_true rfl rfl rfl (by decide +kernel)) (pi_list (pe_meth0 (pv 0) cB ME GE hr bE .nil pass0)) (blkOk_by (own := [("key", 2), ("begin", 4), ("end", 5), ("amount", 6)]) (N := n_scPast) (sc := defScope s_scPast) (by decide +kernel)) (fun _ _ _ _ _ => (pg_tup rfl (pgs_cons (pg_name (i := 2) scPast.nd rfl (.inl rfl)) (pgs_cons (pg_name (i := 4) scPast.nd rfl (.inl rfl)) (pgs_cons (pg_name (i := 5) scPast.nd rfl (.inl rfl)) (pgs_cons (pg_name (i := 6) scPast.nd rfl (.inl rfl)) pgs_nil)))))) (fun _ _ _ _ _ => pts_one (pt_cmpR op_le (pv 5) (pv 1) (nomark _))) (fun _ _ _ _ _ => (pv 2)))
      (C8.pss_cut (ps_for (passes_of rfl) rfl (pi_list (pv 3)) (pg_name (i := 2) scPast.nd rfl (.inl rfl))
        (pss_one (ps_expr (pe_meth (pv 0) cB MR GR hr bR .nil (passes_call (takes_of rfl rfl rfl rfl) (fun _ _ _ _ h => h)) (pa_cons (pv 2) pa_nil)))))
      (pss_one (ps_ret (pv 3))))), ?_⟩
    refine ⟨_, rfl, a, dx, _, rfl, B.obj, rfl, a, dx, m, d, lv, ps, room, rs, rfl, B, fun p H1 as ss s1 np ep prs ik => ⟨p, rfl, ⟨_, SqL.of ep⟩, fun D nD => ?_⟩⟩
    have la : as.length = ss.length := prs.length
    have ls := ik.1.length_eq
    have few := B.few
    refine lc_list (K := K) (a := p) (xs := as.map V.ref) (fun i H' => Same H1 H' ∧ H' D = some (.lst ((((ss.take i).filter fun x => decide (x.e ≤ t)).map (·.key)).map V.str)))
      ⟨same_upd nD, upd_same⟩ (fun i H' _ p => SqL.of (p.1 _ _ ep)) (fun i x H2 hx p => ?_) (fun H2 p => ?_)
    · obtain ⟨p1, p2⟩ := p
      obtain ⟨ra, hra, rfl⟩ := map_get hx
      obtain ⟨R, hR, am, r1, r2⟩ := paired_get prs hra
      have hi : i < as.length := (List.getElem?_eq_some_iff.mp hra).1
      have tk : (ss.take (i + 1)).filter (fun x => decide (x.e ≤ t)) = (ss.take i).filter (fun x => decide (x.e ≤ t)) ++ (if decide (R.e ≤ t) = true then [R] else []) := by
        rw [List.take_add_one, hR, List.filter_append]
        congr 1
        show List.filter _ [R] = _
        rw [List.filter_cons]
        rfl
      refine ⟨ra, _, rfl, SqT.of (p1 _ _ r1), rfl, _, _, rfl, _, _, rfl, _, _, rfl, _, _, rfl, rfl, rfl, ?_⟩
      refine ⟨_, rfl, _, rfl, _, _, rfl, rfl, _, rfl, ite2 (fun e => ?_) (fun e => ?_)⟩
      · refine ⟨_, rfl, _, p2, ?_, same_put p1 nD, ?_⟩
        · have := List.length_filter_le (fun x : Bw => decide (x.e ≤ t)) (ss.take i)
          rw [List.length_take] at this
          rw [List.length_map, List.length_map]
          exact small63 (by omega)
        · rw [upd_same, tk, if_pos e, List.map_append, List.map_append]
          rfl
      · refine ⟨p1, ?_⟩
        rw [tk, if_neg e, List.append_nil]
        exact p2
    obtain ⟨p1, p2⟩ := p
    rw [List.length_map, List.take_of_length_le (by omega)] at p2
    have pf := past_filter (t := t) B.nd ik.1
    have ndp : ((ss.filter fun x => decide (x.e ≤ t)).map (·.key)).Nodup := by
      have : (ss.map (·.key)).Nodup := (ik.1.map _).nodup_iff.mpr B.nd
      exact this.sublist (List.filter_sublist.map _)
    have inr : ∀ z ∈ (ss.filter fun x => decide (x.e ≤ t)).map (·.key), ∃ x ∈ rs, x.key = z := fun z hz => by
      obtain ⟨x, hx, e⟩ := List.mem_map.mp hz
      exact ⟨x, ik.1.mem_iff.mp (List.mem_filter.mp hx).1, e⟩
    have hq := q D
    have s02 := s1.trans p1
    have nDH : H D = none := s1.free nD
    generalize hzs : (ss.filter fun x => decide (x.e ≤ t)).map (·.key) = zs at p2 pf ndp inr
    refine ⟨fun σ H' => ∃ (lv' : V) (ps' : List (Key × V)), σ[3]? = some (some (V.ref D)) ∧ Kp [a, d] H H' ∧ H' D = some (.lst (zs.map V.str)) ∧ BookAt H' C a dx m d lv' ps' room (rs.filter (lateB t)) ∧ (lv' = .non ∨ (lv' = lv ∧ Same H H')), ?_, fun σ H3 hm => ?_⟩
    · refine ⟨_, rfl, D, rfl, ⟨_, SqL.of p2⟩, ?_⟩
      refine for_list (xs := zs.map V.str) (fun i σ H' => ∃ (y3 : Option V) (lv' : V) (ps' : List (Key × V)), σ = [some (.ref a), some (.int t), y3, some (.ref D), none, none, none] ∧ Kp [a, d] H H' ∧ H' D = some (.lst (zs.map V.str)) ∧ BookAt H' C a dx m d lv' ps' room (rs.filter fun x => decide (x.key ∉ zs.take i)) ∧ (lv' = .non ∨ (lv' = lv ∧ Same H H')))
        ⟨none, lv, ps, rfl, Same.kp _ s02, p2, ?_, .inr ⟨rfl, s02⟩⟩ (fun i σ H' _ p => ?_) (fun i v σ H3 hv p => ?_) (fun σ H3 p => ?_)
      · have e0 : (rs.filter fun x => decide (x.key ∉ zs.take 0)) = rs := List.filter_eq_self.mpr fun x _ => by simp
        rw [e0]
        exact B.same s02
      · obtain ⟨_, _, _, _, _, h, _⟩ := p
        exact SqL.of h
      · obtain ⟨y3, lv', ps', rfl, k3, e3, B3, hl⟩ := p
        obtain ⟨z, hz, rfl⟩ := map_get hv
        obtain ⟨x, hx, ex⟩ := inr z (List.mem_of_getElem? hz)
        have zi : z ∈ (rs.filter fun x => decide (x.key ∉ zs.take i)).map (·.key) := by
          refine List.mem_map.mpr ⟨x, List.mem_filter.mpr ⟨hx, decide_eq_true ?_⟩, ex⟩
          rw [ex]
          intro hm
          obtain ⟨j, hj⟩ := List.mem_iff_getElem?.mp hm
          rw [List.getElem?_take] at hj
          split at hj
          · rename_i lt
            obtain ⟨a1, b1⟩ := List.getElem?_eq_some_iff.mp hj
            obtain ⟨a2, b2⟩ := List.getElem?_eq_some_iff.mp hz
            exact List.pairwise_iff_getElem.mp ndp j i a1 a2 lt (by rw [b1, b2])
          · cases hj
        refine ⟨_, rfl, a, dx, _, rfl, B3.obj, rfl, _, rfl, a, dx, m, d, lv', ps', room, _, z, rfl, B3, by rw [← ex]; exact kl x hx, fun _ H4 ps4 k4 B4 => ?_, fun n => absurd zi n⟩
        rw [filter_more] at B4
        have tz : zs.take (i + 1) = zs.take i ++ [z] := by
          rw [List.take_add_one, hz]
          rfl
        have Da : D ∉ [a, d] := fun w => by
          rcases List.mem_cons.mp w with w | w
          · rw [w, B3.obj] at e3; cases e3
          · rw [List.mem_singleton.mp w, B3.en] at e3; cases e3
        refine ⟨_, .non, ps4, rfl, k3.trans k4, k4 _ _ Da e3, ?_, .inl rfl⟩
        rw [tz]
        exact B4
      · obtain ⟨y3, lv', ps', rfl, k3, e3, B3, hl⟩ := p
        rw [List.length_map, List.take_length, pf] at B3
        exact ⟨lv', ps', rfl, k3, e3, B3, hl⟩
    · obtain ⟨lv', ps', e, k3, e3, B3, hl⟩ := hm
      refine ⟨_, e, hq H3 lv' ps' ss ik k3 nDH ?_ B3 hl⟩
      rw [hzs]
      exact e3
theorem ok_init {f : Addr} {fd : FuncData} {k : Nat} (F : Fun K "__init__" "Book.__init__" s_scInit f fd) (c : BCls K C) : FnOk P w K mg base CX0 (k + 1) f fd ["self", "room"] (spBInit C) := by
  refine F.ok scInit (fun vs H Q E h => ?_) (fun cdv A outer s H vs Q E hr h => ?_)
  · obtain ⟨a, dx, m, rfl, _⟩ := h
    rfl
  · obtain ⟨a, dx, m, rfl, hA, q⟩ := h
    refine ⟨_, (pss_cons (ps_fld (pv 0) (pv 1) rfl)
      (pss_cons (ps_fld (pv 0) pe_dnewK rfl)
      (pss_one (ps_fld (pv 0) pe_non rfl)))), ?_⟩
    refine ⟨_, rfl, _, rfl, a, C, dx, [], rfl, hA, c.cls, c.room, by show 0 < 1000; decide, ?_⟩
    have k1 : Kp [a] H (upd H a (.ins C dx (putF "room" (.ref m) []))) := kp_upd (List.mem_singleton.mpr rfl)
    have e1 : upd H a (.ins C dx (putF "room" (.ref m) [])) a = some (.ins C dx (putF "room" (.ref m) [])) := upd_same
    generalize upd H a (.ins C dx (putF "room" (.ref m) [])) = H1 at k1 e1 ⊢
    refine fun d nd => ?_
    have da : d ≠ a := fun z => by
      rw [z, e1] at nd
      cases nd
    have e2 := same_upd (o := .dK []) nd _ _ e1
    have k2 : Kp [a] H (upd H1 d (.dK [])) := kp_new k1 nd
    have ed2 : upd H1 d (.dK []) d = some (.dK []) := upd_same
    generalize upd H1 d (.dK []) = H2 at e2 k2 ed2 ⊢
    refine ⟨_, rfl, a, C, dx, _, rfl, e2, c.cls, c.entries, by show 1 < 1000; decide, ?_⟩
    refine ⟨_, rfl, a, C, dx, _, rfl, upd_same, c.cls, c.lefts, by show 2 < 1000; decide, ?_⟩
    refine q d _ ?_ ?_ (kp_free k1 da nd) ?_
    · exact fun x o nx e => by
        rw [upd_ne fun z => nx (List.mem_singleton.mpr z), upd_ne fun z => nx (List.mem_singleton.mpr z)]
        exact k2 _ _ nx e
    · rw [upd_same]
      rfl
    · rw [upd_ne da, upd_ne da]
      exact ed2
end
end My

namespace My
open PySem PySem.Spec PyProof.Rows L2 GX GxR
abbrev s_scKCall : Stmt := topS 44
abbrev n_scKCall : List Str := ["_law_book", "_law_deed_here"]
theorem scKCall : FnScope n_scKCall ["_law_book", "_law_deed_here"] (defScope s_scKCall) := ⟨rfl, rfl, rfl, by decide +kernel, rfl, by decide +kernel, by decide +kernel⟩
/-- a book as it stands, its entries as they may be -/
structure Bk (H : Hp) (Ts : List Addr) (C a dx m d : Addr) (Z : List Str) (room : List Int) (rs : List Bw) : Prop where
  at_ : ∃ lv ps, BookAt H C a dx m d lv ps room rs ∧ LeftsAt H lv room rs
  good : BGood Z room rs
  tabs : Tabs Ts H
  nn : ∀ n ∈ room, 0 ≤ n
  zl : ∀ z ∈ Z, PySem.PyData.strOk z = true ∧ z.length ≤ 8
theorem LeftsAt.same {H H' : Hp} {lv : V} {room : List Int} {rs : List Bw} (s : Same H H') (h : LeftsAt H lv room rs) : LeftsAt H' lv room rs := by
  rcases h with h | ⟨l, ls, ks, e, h1, h2, h3⟩
  · exact .inl h
  · exact .inr ⟨l, ls, ks, e, s _ _ h1, h2, h3.mono fun _ _ x => x.kt (Same.kt s)⟩
theorem Bk.same {H H' : Hp} {Ts : List Addr} {C a dx m d : Addr} {Z : List Str} {room : List Int} {rs : List Bw} (s : Same H H') (b : Bk H Ts C a dx m d Z room rs) : Bk H' Ts C a dx m d Z room rs := by
  obtain ⟨⟨lv, ps, h1, h2⟩, h3, h4, h5, h6⟩ := b
  exact ⟨⟨lv, ps, h1.same s, h2.same s⟩, h3, (Fw.same h4 s).tabs, h5, h6⟩
def OutV (H : Hp) (v : V) : Out → Prop
  | .no => v = .non
  | .time _ => False
  | .keys zs => ∃ l, v = .ref l ∧ H l = some (.lst (zs.map V.str))
def spCalled (Ts : List Addr) (C TM TK N : Addr) : Sp := fun vs H Q E => ∃ (a dx m d pd : Addr) (Z : List Str) (room : List Int) (rs : List Bw) (dd : Deed), vs = [.ref a, .ref pd] ∧ Bk H Ts C a dx m d Z room rs ∧ rs.length < 109 ∧ DeedAt H pd dd ∧ DeedOk Z room dd ∧
  (∀ v o rs' H', DueR room rs dd "told" o rs' → OutV H' v o → Kp (a :: d :: Ts) H H' → Bk H' Ts C a dx m d Z room rs' → Q v H') ∧
  (DueR room rs dd "Taken" .no rs → E (.ref TK) none H) ∧ (DueR room rs dd "NoKey" .no rs → E (.ref N) none H) ∧
  (∀ t dE H', DueR room rs dd "TooMuch" (.time t) rs → Fw Ts H H' → H dE = none → H' dE = some (.xd [("time", .int t)]) → E (.ref TM) (some dE) H')
theorem log_small {n : Int} (h0 : 0 ≤ n) (h1 : n ≤ 2000000000) : n.natAbs.log2 < 1920 := by
  by_cases z : n.natAbs = 0
  · rw [z]
    decide
  · refine (Nat.log2_lt z).mpr (Nat.lt_of_lt_of_le (show n.natAbs < 2 ^ 31 by omega) (Nat.pow_le_pow_right (by decide) (by decide)))
theorem putR_few {rs : List Bw} {x : Bw} : (putR rs x).length ≤ rs.length + 1 := by
  unfold putR
  split
  · rw [List.length_map]
    omega
  · rw [List.length_append]
    exact Nat.le_refl _
theorem keepC_of {H : Hp} {Ts : List Addr} {C TM a dx m d : Addr} {Z : List Str} {room : List Int} {rs : List Bw} {x : Bw} {Q : VK} {E : XK} (b : Bk H Ts C a dx m d Z room rs) (few : rs.length < 109) (kl : x.key.length ≤ 100) (lt : x.b < x.e) (len : x.am.length = room.length) (b0 : 0 ≤ x.b) (e2 : x.e ≤ 2000000000)
    (q : ∀ H' ks ps', Srt (withX rs x) ks → ks.find? (ovr room.length (withX rs x) room) = none → Kp (a :: d :: Ts) H H' → Tabs Ts H' → BookAt H' C a dx m d .non ps' room (putR rs x) → Q .non H')
    (qe : ∀ H' ks t dE, Srt (withX rs x) ks → ks.find? (ovr room.length (withX rs x) room) = some t → Fw Ts H H' → H dE = none → H' dE = some (.xd [("time", .int t)]) → E (.ref TM) (some dE) H') : KeepC Ts C TM a dx m d room rs x H Q E := by
  have inw : ∀ {P : Bw → Prop}, (∀ y ∈ rs, P y) → P x → ∀ y ∈ withX rs x, P y := fun {P} h1 h2 y hy => by
    rcases List.mem_append.mp hy with z | z
    · exact h1 y (List.mem_filter.mp z).1
    · rw [List.mem_singleton.mp z]
      exact h2
  have inp : ∀ {P : Bw → Prop}, (∀ y ∈ rs, P y) → P x → ∀ y ∈ putR rs x, P y := fun {P} h1 h2 y hy => by
    rcases putR_mem hy with z | z
    · exact h1 y z
    · rw [z]
      exact h2
  have g := b.good
  have lw : (withX rs x).length ≤ rs.length + 1 := by
    unfold withX
    rw [List.length_append]
    have := List.length_filter_le (fun y : Bw => decide (y.key ≠ x.key)) rs
    show _ + 1 ≤ _
    omega
  have lp := putR_few (rs := rs) (x := x)
  refine ⟨kl, ⟨by omega, inw g.lt lt, inw g.len len⟩, by omega, ⟨by omega, inp g.lt lt, inp g.len len⟩, b.nn, inw (P := fun y => y.b.natAbs.log2 < 1920 ∧ y.e.natAbs.log2 < 1920) (fun y hy => ?_) ?_, b.tabs, q, qe⟩
  · have h1 := g.tm y hy
    have h2 := g.lt y hy
    exact ⟨log_small h1.1 (by omega), log_small (by omega) h1.2⟩
  · exact ⟨log_small b0 (by omega), log_small (by omega) e2⟩
theorem filter_all {rs : List Bw} {p : Bw → Bool} (h : (rs.filter p).length = rs.length) : rs.filter p = rs := List.filter_eq_self.mpr (List.length_filter_eq_length_iff.mp h)
section
variable {P : Program} {w : World} {K : PySem.W.Frag} {mg : Str → Option Value} {base : Heap}
set_option maxHeartbeats 2000000 in
theorem ok_kcall {f fP fU fS fR fA C TM TK N : Addr} {fd fdP fdU fdS fdR fdA : FuncData} {k : Nat} {Ts : List Addr} (F : Fun K "_law_called" "_law_called" s_scKCall f fd) (c : BCls K C)
    (GP : FnOk P w K mg base (L2.CX P w) k fP fdP ["self", "key", "begin", "end", "amount"] (spPut K Ts C TM TK)) (MP : Meth K C "put_entry" fP) (bP : L2.Binds K fdP ["self", "key", "begin", "end", "amount"] [])
    (GU : FnOk P w K mg base (L2.CX P w) k fU fdU ["self", "key", "time"] (spCut C N)) (MU : Meth K C "cut_entry" fU) (bU : L2.Binds K fdU ["self", "key", "time"] [])
    (GS : FnOk P w K mg base (L2.CX P w) k fS fdS ["self", "key", "end"] (spStretch K Ts C TM N)) (MS : Meth K C "stretch_entry" fS) (bS : L2.Binds K fdS ["self", "key", "end"] [])
    (GR : FnOk P w K mg base (L2.CX P w) k fR fdR ["self", "key"] (spDrop C N)) (MR : Meth K C "drop_entry" fR) (bR : L2.Binds K fdR ["self", "key"] [])
    (GA : FnOk P w K mg base (L2.CX P w) k fA fdA ["self", "time"] (spPast K C)) (MA : Meth K C "drop_past" fA) (bA : L2.Binds K fdA ["self", "time"] []) :
    FnOk P w K mg base (L2.CX P w) (k + 1) f fd ["_law_book", "_law_deed_here"] (spCalled Ts C TM TK N) := by
  have cB := c.cls
  refine F.okX scKCall (fun vs H Q E h => ?_) (fun cdv A outer s H vs Q E hr h => ?_)
  · obtain ⟨a, dx, m, d, pd, Z, room, rs, dd, rfl, _⟩ := h
    rfl
  · obtain ⟨a, dx, m, d, pd, Z, room, rs, dd, rfl, bk, few, hD, ok, q, qT, qN, qM⟩ := h
    refine ⟨_, (pss_cons (ps_if (pt_cmpR op_eq (pe_ix ix_tup (pv 1) pe_int (fun _ _ => rfl)) pe_str (nomark _))
        (pss_one (ps_expr (pe_meth (pv 0) cB MP GP hr bP .nil (passes_call (takes_of rfl rfl rfl rfl) (fun _ _ _ _ h => h)) (pa_cons (pe_ix ix_tup (pv 1) pe_int (fun _ _ => rfl)) (pa_cons (pe_ix ix_tup (pv 1) pe_int (fun _ _ => rfl)) (pa_cons (pe_ix ix_tup (pv 1) pe_int (fun _ _ => rfl)) (pa_cons (pe_ix ix_tup (pv 1) pe_int (fun _ _ => rfl)) pa_nil)))))))
        (pss_one (ps_if (pt_cmpR op_eq (pe_ix ix_tup (pv 1) pe_int (fun _ _ => rfl)) pe_str (nomark _))
          (pss_one (ps_expr (pe_meth (pv 0) cB MU GU hr bU .nil (passes_call (takes_of rfl rfl rfl rfl) (fun _ _ _ _ h => h)) (pa_cons (pe_ix ix_tup (pv 1) pe_int (fun _ _ => rfl)) (pa_cons (pe_ix ix_tup (pv 1) pe_int (fun _ _ => rfl)) pa_nil)))))
          (pss_one (ps_if (pt_cmpR op_eq (pe_ix ix_tup (pv 1) pe_int (fun _ _ => rfl)) pe_str (nomark _))
            (pss_one (ps_expr (pe_meth (pv 0) cB MS GS hr bS .nil (passes_call (takes_of rfl rfl rfl rfl) (fun _ _ _ _ h => h)) (pa_cons (pe_ix ix_tup (pv 1) pe_int (fun _ _ => rfl)) (pa_cons (pe_ix ix_tup (pv 1) pe_int (fun _ _ => rfl)) pa_nil)))))
            (pss_one (ps_if (pt_cmpR op_eq (pe_ix ix_tup (pv 1) pe_int (fun _ _ => rfl)) pe_str (nomark _))
              (pss_one (ps_expr (pe_meth (pv 0) cB MR GR hr bR .nil (passes_call (takes_of rfl rfl rfl rfl) (fun _ _ _ _ h => h)) (pa_cons (pe_ix ix_tup (pv 1) pe_int (fun _ _ => rfl)) pa_nil))))
              (pss_one (ps_ret (pe_meth (pv 0) cB MA GA hr bA .nil (passes_call (takes_of rfl rfl rfl rfl) (fun _ _ _ _ h => h)) (pa_cons (pe_ix ix_tup (pv 1) pe_int (fun _ _ => rfl)) pa_nil)))))))))))
      (pss_one (ps_ret pe_non))), ?_⟩
    obtain ⟨lv, ps, B, L⟩ := bk.at_
    have g := bk.good
    have sub : ∀ {H' : Hp}, Kp [a, d] H H' → Kp (a :: d :: Ts) H H' := fun h => h.mono fun x hx => by
      rcases List.mem_cons.mp hx with z | z
      · rw [z]; exact List.mem_cons_self
      · rw [List.mem_singleton.mp z]; exact List.mem_cons_of_mem _ List.mem_cons_self
    obtain ⟨ad, ma, md⟩ := B.ad
    have tabsK : ∀ {H' : Hp}, Kp [a, d] H H' → Tabs Ts H' := fun {H'} k T hT => by
      obtain ⟨ps', h1, h2⟩ := bk.tabs T hT
      refine ⟨ps', k _ _ (fun z => ?_) h1, h2⟩
      rcases List.mem_cons.mp z with z | z
      · rw [z, B.obj] at h1; cases h1
      · rw [List.mem_singleton.mp z, B.en] at h1; cases h1
    -- told, the book set anew
    have done : ∀ {H' : Hp} {ps' : List (Key × V)} {rs' : List Bw}, DueR room rs dd "told" .no rs' → Kp (a :: d :: Ts) H H' → Tabs Ts H' → BookAt H' C a dx m d .non ps' room rs' → Q .non H' := fun due kp tb B' =>
      q .non .no _ _ due rfl kp ⟨⟨_, _, B', .inl rfl⟩, g.due ok due, tb, bk.nn, bk.zl⟩
    have still : ∀ {H' : Hp}, DueR room rs dd "told" .no rs → Same H H' → Q .non H' := fun due s => q .non .no _ _ due rfl (Same.kp _ s) (bk.same s)
    have klen : ∀ {z : Str}, z ∈ Z → z.length ≤ 100 := fun h => by
      have := (bk.zl _ h).2
      omega
    cases dd with
    | put x =>
      obtain ⟨am, d1, d2⟩ := hD
      obtain ⟨k1, k2, k3, k4, k5, k6⟩ := ok
      refine ⟨_, rfl, pd, _, 0, .str "put", rfl, rfl, SqT.of d1, rfl, rfl, true, tst_eq, iteT ?_⟩
      refine ⟨_, rfl, a, dx, _, rfl, B.obj, rfl, _, rfl, pd, _, 1, .str x.key, rfl, rfl, SqT.of d1, rfl, _, rfl, pd, _, 2, .int x.b, rfl, rfl, SqT.of d1, rfl, _, rfl, pd, _, 3, .int x.e, rfl, rfl, SqT.of d1, rfl, _, rfl, pd, _, 4, .ref am, rfl, rfl, SqT.of d1, rfl, ?_⟩
      refine ⟨a, dx, m, d, lv, ps, room, rs, am, x, rfl, B, d2, klen k6, fun hk => qT (.inl ⟨hk, rfl, rfl, rfl⟩), fun hk => ?_⟩
      refine keepC_of bk few (klen k6) k1 k2 k4 k5 (fun H' ks ps' sr fn kp tb B' => ?_) (fun H' ks t dE sr fn fw nE eE => ?_)
      · have fi := first_put k2 k1 g.fit hk sr
        rw [fn] at fi
        exact done (.inr ⟨hk, none, fi, rfl, rfl, rfl⟩) kp tb B'
      · have fi := first_put k2 k1 g.fit hk sr
        rw [fn] at fi
        exact qM t dE H' (.inr ⟨hk, some t, fi, rfl, rfl, rfl⟩) fw nE eE
    | cut z t =>
      have d1 : H pd = some (.tup [.str "cut", .str z, .int t]) := hD
      refine ⟨_, rfl, pd, _, 0, .str "cut", rfl, rfl, SqT.of d1, rfl, rfl, false, tst_ne (by decide +kernel), iteF ?_⟩
      refine ⟨_, rfl, pd, _, 0, .str "cut", rfl, rfl, SqT.of d1, rfl, rfl, true, tst_eq, iteT ?_⟩
      refine ⟨_, rfl, a, dx, _, rfl, B.obj, rfl, _, rfl, pd, _, 1, .str z, rfl, rfl, SqT.of d1, rfl, _, rfl, pd, _, 2, .int t, rfl, rfl, SqT.of d1, rfl, ?_⟩
      refine ⟨a, dx, m, d, lv, ps, room, rs, z, t, rfl, B, ok, fun hk => qN (.inl ⟨hk, rfl, rfl, rfl⟩), fun x hx ex => ⟨fun h1 H' ps' kp B' => ?_, fun h1 h2 => ⟨?_, fun H' ps' kp B' => ?_⟩, fun h1 h2 H' s1 => ?_⟩⟩
      · exact done (.inr ⟨x, hx, ex, rfl, rfl, (if_pos h1).symm⟩) (sub kp) (tabsK kp) B'
      · have inp : ∀ {P : Bw → Prop}, (∀ y ∈ rs, P y) → P ⟨x.key, x.b, t, x.am⟩ → ∀ y ∈ putR rs ⟨x.key, x.b, t, x.am⟩, P y := fun {P} h1 h2 y hy => by
          rcases putR_mem hy with z | z
          · exact h1 y z
          · rw [z]
            exact h2
        have lp := putR_few (rs := rs) (x := ⟨x.key, x.b, t, x.am⟩)
        exact ⟨by omega, inp g.lt h1, inp g.len (g.len x hx)⟩
      · refine done (.inr ⟨x, hx, ex, rfl, rfl, ?_⟩) (sub kp) (tabsK kp) B'
        rw [if_neg (by omega), if_pos h2]
      · refine still (.inr ⟨x, hx, ex, rfl, rfl, ?_⟩) s1
        rw [if_neg (by omega), if_neg (by omega)]
    | stretch z t =>
      have d1 : H pd = some (.tup [.str "stretch", .str z, .int t]) := hD
      obtain ⟨o1, o2⟩ := ok
      refine ⟨_, rfl, pd, _, 0, .str "stretch", rfl, rfl, SqT.of d1, rfl, rfl, false, tst_ne (by decide +kernel), iteF ?_⟩
      refine ⟨_, rfl, pd, _, 0, .str "stretch", rfl, rfl, SqT.of d1, rfl, rfl, false, tst_ne (by decide +kernel), iteF ?_⟩
      refine ⟨_, rfl, pd, _, 0, .str "stretch", rfl, rfl, SqT.of d1, rfl, rfl, true, tst_eq, iteT ?_⟩
      refine ⟨_, rfl, a, dx, _, rfl, B.obj, rfl, _, rfl, pd, _, 1, .str z, rfl, rfl, SqT.of d1, rfl, _, rfl, pd, _, 2, .int t, rfl, rfl, SqT.of d1, rfl, ?_⟩
      refine ⟨a, dx, m, d, lv, ps, room, rs, z, t, rfl, B, o1, fun hk => qN (.inl ⟨hk, rfl, rfl, rfl⟩), fun x hx ex => ⟨fun h1 => ?_, fun h1 H' s1 => ?_⟩⟩
      · have lt := g.lt x hx
        have tm := g.tm x hx
        refine keepC_of bk few (klen (g.key x hx)) (by show x.b < t; omega) (g.len x hx) tm.1 o2 (fun H' ks ps' sr fn kp tb B' => ?_) (fun H' ks t1 dE sr fn fw nE eE => ?_)
        · have fi := first_stretch (g.len x hx) g.nd hx lt h1 g.fit sr
          rw [fn] at fi
          exact done (.inr ⟨x, hx, ex, .inl ⟨h1, none, fi, rfl, rfl, rfl⟩⟩) kp tb B'
        · have fi := first_stretch (g.len x hx) g.nd hx lt h1 g.fit sr
          rw [fn] at fi
          exact qM t1 dE H' (.inr ⟨x, hx, ex, .inl ⟨h1, some t1, fi, rfl, rfl, rfl⟩⟩) fw nE eE
      · exact still (.inr ⟨x, hx, ex, .inr ⟨h1, rfl, rfl, rfl⟩⟩) s1
    | drop z =>
      have d1 : H pd = some (.tup [.str "drop", .str z]) := hD
      refine ⟨_, rfl, pd, _, 0, .str "drop", rfl, rfl, SqT.of d1, rfl, rfl, false, tst_ne (by decide +kernel), iteF ?_⟩
      refine ⟨_, rfl, pd, _, 0, .str "drop", rfl, rfl, SqT.of d1, rfl, rfl, false, tst_ne (by decide +kernel), iteF ?_⟩
      refine ⟨_, rfl, pd, _, 0, .str "drop", rfl, rfl, SqT.of d1, rfl, rfl, false, tst_ne (by decide +kernel), iteF ?_⟩
      refine ⟨_, rfl, pd, _, 0, .str "drop", rfl, rfl, SqT.of d1, rfl, rfl, true, tst_eq, iteT ?_⟩
      refine ⟨_, rfl, a, dx, _, rfl, B.obj, rfl, _, rfl, pd, _, 1, .str z, rfl, rfl, SqT.of d1, rfl, ?_⟩
      refine ⟨a, dx, m, d, lv, ps, room, rs, z, rfl, B, ok, fun hk H' ps' kp B' => ?_, fun hk => qN (.inl ⟨hk, rfl, rfl, rfl⟩)⟩
      exact done (.inr ⟨hk, rfl, rfl, rfl⟩) (sub kp) (tabsK kp) B'
    | past t =>
      have d1 : H pd = some (.tup [.str "past", .int t]) := hD
      refine ⟨_, rfl, pd, _, 0, .str "past", rfl, rfl, SqT.of d1, rfl, rfl, false, tst_ne (by decide +kernel), iteF ?_⟩
      refine ⟨_, rfl, pd, _, 0, .str "past", rfl, rfl, SqT.of d1, rfl, rfl, false, tst_ne (by decide +kernel), iteF ?_⟩
      refine ⟨_, rfl, pd, _, 0, .str "past", rfl, rfl, SqT.of d1, rfl, rfl, false, tst_ne (by decide +kernel), iteF ?_⟩
      refine ⟨_, rfl, pd, _, 0, .str "past", rfl, rfl, SqT.of d1, rfl, rfl, false, tst_ne (by decide +kernel), iteF ?_⟩
      refine ⟨_, rfl, a, dx, _, rfl, B.obj, rfl, _, rfl, pd, _, 1, .int t, rfl, rfl, SqT.of d1, rfl, ?_⟩
      refine ⟨a, dx, m, d, lv, ps, room, rs, t, rfl, B, fun x hx => klen (g.key x hx), fun p H' lv' ps' ss ik kp np ep B' hl => ?_⟩
      have pm : ((ss.filter fun x => decide (x.e ≤ t)).map (·.key)).Perm ((rs.filter fun x => decide (x.e ≤ t)).map (·.key)) := (ik.1.filter _).map _
      have so : Pw ((ss.filter fun x => decide (x.e ≤ t)).map (·.key)) := List.Pairwise.sublist (List.filter_sublist.map _) (sorted_pw ik.2)
      have due : DueR room rs (.past t) "told" (.keys ((ss.filter fun x => decide (x.e ≤ t)).map (·.key))) (rs.filter (lateB t)) := ⟨_, pm, so, rfl, rfl, rfl⟩
      refine q (.ref p) _ _ H' due ⟨p, rfl, ep⟩ (sub kp) ⟨⟨lv', ps', B', ?_⟩, g.due ok due, tabsK kp, bk.nn, bk.zl⟩
      rcases hl with hl | ⟨hl, s1⟩
      · exact .inl hl
      · have e : ps' = ps := by
          have h1 := s1 _ _ B.en
          rw [B'.en] at h1
          exact HO.dK.inj (Option.some.inj h1)
        have l1 := B'.prs.length
        have l2 := B.prs.length
        rw [e] at l1
        rw [filter_all (by omega), hl]
        exact L.same s1
end
end My

set_option maxHeartbeats 2000000
namespace XI
open PySem PySem.Spec PyProof.Rows L2 GX GxR My
/-! an exception that was caught and is kept as a value -/
/-- a caught exception of the class at C, its dict d -/
def KpE (C a : Addr) (d : Option Addr) : HO := .ext fun h => ∃ (oe : Obj) (vs : Array Value), h.get? a = some oe ∧ Zc (.ref C) d oe ∧ oe.data = .fields vs
theorem kpE_ok {P : Program} {w : World} {H : Hp} {h : Heap} {C a : Addr} {d : Option Addr} {oe : Obj} {vs : Array Value} (g : h.get? a = some oe) (z : Zc (.ref C) d oe) (f : oe.data = .fields vs) : ObjOk P w H h a (KpE C a d) :=
  ⟨⟨oe, vs, g, z, f⟩, ⟨oe, g⟩, fun h1 h2 ⟨o1, v1, q1, r1⟩ up => ⟨o1, v1, up o1 q1, r1⟩⟩
theorem kpE_at {P : Program} {w : World} {H : Hp} {h : Heap} {C a : Addr} {d : Option Addr} (ok : HOk P w H h) (e : H a = some (KpE C a d)) : ∃ (oe : Obj) (vs : Array Value), h.get? a = some oe ∧ Zc (.ref C) d oe ∧ oe.data = .fields vs := by
  have y : ObjOk P w H h a (.ext fun h => ∃ (oe : Obj) (vs : Array Value), h.get? a = some oe ∧ Zc (.ref C) d oe ∧ oe.data = .fields vs) := ok a _ e
  exact y.1
section
variable {X : Cx} {pins : List (Addr × Obj)} {σ : L2.St} {H : Hp} {s : Shared}
/-- a thing of the heap that nothing tells of yet is told of from here on -/
theorem Inv.tell (I : Inv X pins σ H s) {a : Addr} {o : HO} (na : H a = none) (new : X.s_0.heap.get? a = none) (nL : a ≠ X.env.locals) (nC : ∀ x c, X.env.cells.lookup x = some c → c ≠ a) (nP : ∀ p ∈ X.pn ++ pins, p.1 ≠ a)
    (ob : ObjOk X.prog X.w (upd H a o) s.heap a o) : Inv X pins σ (upd H a o) s := by
  obtain ⟨i1, i2, i3, i4, i5, i6, i7, i8, i9, i10, i11⟩ := I
  have ne : ∀ {b : Addr} {q : HO}, H b = some q → b ≠ a := fun {b q} e => ne_of_none e na
  refine ⟨i1, i2, i3, ⟨i4.keep, i4.slot, fun b q h1 h2 h3 => ?_, i4.there, fun b xs h1 => ?_, fun b q xs h1 => ?_, fun b ps h1 => ?_⟩, i5, i6, ?_, fun x c h1 => ?_, fun p hp => ?_, fun b q e => ?_, i11⟩
  · have nb : b ≠ a := fun z => by
      rw [z, new] at h1
      cases h1
    rw [upd_ne nb]
    exact i4.free b q h1 h2 h3
  · have := i4.tups b xs h1
    rw [upd_ne (ne this)]
    exact this
  · have := i4.frzs b q xs h1
    rw [upd_ne (ne this)]
    exact this
  · obtain ⟨more, this⟩ := i4.tbls b ps h1
    exact ⟨more, by rw [upd_ne (ne this)]; exact this⟩
  · rw [upd_ne (Ne.symm nL)]
    exact i7
  · rw [upd_ne (nC x c h1)]
    exact i8 x c h1
  · obtain ⟨g1, g2, g3⟩ := i9 p hp
    exact ⟨g1, by rw [upd_ne (nP p hp)]; exact g2, g3⟩
  · by_cases z : b = a
    · subst z
      rw [upd_same] at e
      cases e
      exact ob
    · rw [upd_ne z] at e
      refine (i10 b q e).stay (fun _ _ _ r => r) (fun c hc => ?_) (fun c xs hc => ?_)
      · rw [upd_ne (ne hc)]
        exact hc
      · rw [upd_ne (ne hc)]
        exact hc
/-- the same state, seen from an except suite -/
theorem Inv.toSuite (I : Inv X pins σ H s) (a : Addr) : Inv (X.suite a (X.pn ++ pins)) [] σ H s := by
  obtain ⟨i1, i2, i3, i4, i5, i6, i7, i8, i9, i10, i11⟩ := I
  exact ⟨i1.suite _ _, i2, i3, i4, i5, i6, i7, i8, fun p hp => i9 p (by rw [List.append_nil] at hp; exact hp), i10, i11⟩
theorem Inv.ofSuite {a : Addr} (I : Inv (X.suite a (X.pn ++ pins)) [] σ H s) (ok : X.Ok) : Inv X pins σ H s := by
  obtain ⟨i1, i2, i3, i4, i5, i6, i7, i8, i9, i10, i11⟩ := I
  exact ⟨ok, i2, i3, i4, i5, i6, i7, i8, fun p hp => i9 p (by rw [List.append_nil]; exact hp), i10, i11⟩
end
/-- what 'except x as n' wishes of an exception of the body, where the exception may outlive the suite: slot i is n's -/
def wKeep (K : PySem.W.Frag) (c : Value) (i : Nat) (ts : TS) (D : Ends) : WX := fun cls d σ H => ∃ C, cls = .ref C ∧ PySem.W.exmOne K cls c = some true ∧ ∀ a, H a = none →
  ts { nx := fun σ1 H1 => D.nx (σ1.set i none) H1, rt := D.rt, bk := fun σ1 H1 => D.bk (σ1.set i none) H1, ct := fun σ1 H1 => D.ct (σ1.set i none) H1 } (σ.set i (some (.ref a))) (upd H a (KpE C a d))
theorem ps_try_keep {X : Cx} {x n : Str} {c : Value} {i : Nat} {body suite : List Stmt} {b₀ : Stmt} {np pos pos' : Pos} {tb : WX → TS} {ts : TS} (st : X.stack = X.env :: X.outer) (fr : X.env.frame = some X.env.locals) (nd : X.N.Nodup) (at_i : X.N[i]? = some n) (lo : X.env.kindOf n = some .local) (nx : X.ex = []) (nm : Names X x c)
    (hb : ∀ (W : WX) (pn : List (Addr × Obj)) (xe : Value → Shared → Prop), Takes (X.tr pn xe) W → PSs (X.tr pn xe) body (tb W))
    (hsu : ∀ (a : Addr) (pn : List (Addr × Obj)), PSs (X.suite a pn) (b₀ :: suite) ts) :
    PS X (.Try body [.ExceptHandler (some (.Name x np)) (some n) (b₀ :: suite) pos'] [] [] pos) (fun D σ H => tb (wKeep X.K c i ts D) D σ H) := by
  constructor
  intro pins s σ H D I h
  have good := I.ok
  have fs2 : X.A.frames = some (X.env :: X.outer) := good.frames.trans (congrArg some st)
  apply wpAny_Try_except
  refine wpAny_mono ((hb (wKeep X.K c i ts D) (X.pn ++ pins) (fun ev sA => wpAny (model X.prog X.w) X.A (noteFrame ev X.env) (fun _ sB => wpAny (model X.prog X.w) X.A (setFlight ev none)
    (fun _ sC => wpAny (model X.prog X.w) X.A (handleBy ev X.env [.ExceptHandler (some (.Name x np)) (some n) (b₀ :: suite) pos']) (SP X pins D) X.xe sC) X.xe sB) X.xe sA) ?_).run [] s σ H D (I.toTry _) h) ?_ (fun _ _ z => z)
  · rintro u s1 ⟨a, G, sG, pn1, σ1, H1, cls, d, rfl, K1, ground, slots, sky, free, oss, bares, C, rfl, fits, go⟩
    have J1 : Inv X pins σ1 H1 sG := K1.ofTry good
    rw [show (X.tr (X.pn ++ pins) _).stack = X.env :: X.outer from st] at sky
    show wpAny (model X.prog X.w) X.A (noteFrame (.ref a) X.env) _ _ _
    apply Sky.land Zc.steady fs2 fr sky
    intro hA flA upA
    have JA : Inv X pins σ1 H1 { s1 with heap := hA } := J1.landed ground flA.1 (slots.trans upA) oss bares
    obtain ⟨oA, vA, gA, zA, dA⟩ := flA.there
    have off : a ∉ frs (X.env :: X.outer) := fun hm => by
      obtain ⟨_, o2, g2, no⟩ := flA.2.2.1.mem hm
      rw [gA] at g2
      cases g2
      exact no _ dA
    have offL : a ≠ X.env.locals := fun z => off (List.mem_filterMap.mpr ⟨X.env, List.mem_cons_self, by rw [fr, z]⟩)
    have was : ∀ {b : Addr} {o : Obj}, sG.heap.get? b = some o → b ∉ frs (X.env :: X.outer) → b ≠ a := fun {b o} g nf z => by
      have q := ground b o g (by rw [st]; exact nf)
      rw [z, flA.2.1] at q
      cases q
    have new : X.s_0.heap.get? a = none := by
      cases e : X.s_0.heap.get? a with
      | none => rfl
      | some o =>
        obtain ⟨o', g⟩ := J1.base.there a o e (by rw [nx]; exact List.not_mem_nil)
        exact absurd rfl (was g off)
    have offP : ∀ p ∈ X.pn ++ pins, p.1 ≠ a := fun p hp => by
      obtain ⟨g1, _, g3, g4, _⟩ := J1.pin p hp
      refine was g1 fun hm => ?_
      rcases List.mem_cons.mp (J1.stkSub p.1 (by rw [st]; exact hm)) with z | z
      · exact g3 z
      · exact g4 z
    refine wpAny_handleBy_cons (codeAny_handlers_test ?_) (by intro q; cases q)
    have ty : PySem.W.Looks (model X.prog X.w) hA (typeOf (.ref a)) (.ref C) := fun _ _ _ _ k q => wpAny_typeOf_ref (k _ _ gA) (by rw [zA.1]; exact q)
    have meets := PySem.W.exm_one (M := model X.prog X.w) JA.kIn ty fits
    have named : ∀ {Q : Value → Shared → Prop} {E : Value → Shared → Prop}, Q c { s1 with heap := hA } → wpAny (model X.prog X.w) (X.A.mark (some (.ref a))) (eval (.Name x np) X.env) Q E { s1 with heap := hA } := fun {Q E} q => by
      obtain ⟨n1, n2, n3 | ⟨n3, n4, n5⟩⟩ := nm
      · exact ld_glob (X := X.suite a (X.pn ++ pins)) (Inv.toSuite JA a) n1 n3 q n2
      · exact ld_blt (X := X.suite a (X.pn ++ pins)) (Inv.toSuite JA a) n1 n3 n4 q n5 n2
    refine named (meets.here (codeAny_handlers_suite_as ?_))
    apply HandSPX.lands_againZ flA
    intro hB flB upB
    have JB : Inv X pins σ1 H1 { s1 with heap := hB } := J1.landed ground flB.1 ((slots.trans upA).trans upB) oss bares
    obtain ⟨oB, vB, gB, zB, dB⟩ := flB.there
    have JK : Inv X pins σ1 (upd H1 a (KpE C a d)) { s1 with heap := hB } := Inv.tell JB free new offL (fun y cc e z => by
      obtain ⟨v, o, g, dc⟩ := JB.cell y cc e
      rw [z] at g
      have : hB.get? a = some o := g
      rw [gB] at this
      cases this
      rw [dB] at dc
      cases dc) offP (kpE_ok gB zB dB)
    refine store_ok (X := X.suite a (X.pn ++ pins)) (v := .ref a) (Inv.toSuite JK a) nd at_i (.inl lo) rfl (fun s2 K2 => ?_) (.inr lo)
    refine wpAny_mono ((hsu a (X.pn ++ pins)).run [] s2 _ _ _ K2 (go a free)) (fun f s3 sp => ?_) (fun _ _ z => False.elim z)
    have close : ∀ {σ3 : L2.St} {H3 : Hp} {Q : Shared → Prop}, Inv (X.suite a (X.pn ++ pins)) [] σ3 H3 s3 → (∀ s4, Inv X pins (σ3.set i none) H3 s4 → Q s4) →
        wpAny (model X.prog X.w) X.A (do bindName X.env n .none; unbindBehindTheSuite X.env n pos') (fun _ s4 => Q s4) X.xe s3 := fun K3 q => gone_ok (Inv.ofSuite K3 good) nd at_i lo q
    cases f with
    | next => exact sp.elim fun σ3 ⟨H3, K3, q3⟩ => close K3 fun s4 J4 => ⟨_, _, J4, q3⟩
    | brk => exact sp.elim fun σ3 ⟨H3, K3, q3⟩ => close K3 fun s4 J4 => ⟨_, _, J4, q3⟩
    | cont => exact sp.elim fun σ3 ⟨H3, K3, q3⟩ => close K3 fun s4 J4 => ⟨_, _, J4, q3⟩
    | ret u => exact sp.elim fun v3 ⟨σ3, H3, K3, r3, q3⟩ => close K3 fun s4 J4 => ⟨_, _, _, J4, r3, q3⟩
  · intro f s1 sp
    cases f with
    | next => exact sp.elim fun σ1 ⟨H1, J1, q⟩ => wpAny_execs_nil ⟨σ1, H1, J1.ofTry good, q⟩
    | brk => exact sp.elim fun σ1 ⟨H1, J1, q⟩ => ⟨σ1, H1, J1.ofTry good, q⟩
    | cont => exact sp.elim fun σ1 ⟨H1, J1, q⟩ => ⟨σ1, H1, J1.ofTry good, q⟩
    | ret u => exact sp.elim fun v ⟨σ1, H1, J1, r, q⟩ => ⟨v, σ1, H1, J1.ofTry good, r, q⟩
/-- a kept exception of the class at C -/
def IsK (H : Hp) (C : Addr) (v : V) : Prop := ∃ a, v = .ref a ∧ (H a = some (KpE C a none) ∨ ∃ d fs, H a = some (KpE C a (some d)) ∧ H d = some (.xd fs))
theorem IsK.same {H H' : Hp} {C : Addr} {v : V} (s : Same H H') (h : IsK H C v) : IsK H' C v := by
  obtain ⟨a, e, h | ⟨d, fs, h1, h2⟩⟩ := h
  · exact ⟨a, e, .inl (s _ _ h)⟩
  · exact ⟨a, e, .inr ⟨d, fs, s _ _ h1, s _ _ h2⟩⟩
theorem IsK.inst {P : Program} {w : World} {H : Hp} {h : Heap} {C : Addr} {v : V} (ok : HOk P w H h) (z : IsK H C v) : ∃ a oe od, v = .ref a ∧ PySem.W.InstAt h a oe C od := by
  obtain ⟨a, rfl, z | ⟨d, fs, h1, h2⟩⟩ := z
  · obtain ⟨⟨oc, oo, oda, osl⟩, vs, g, ⟨z1, z2⟩, f⟩ := kpE_at ok z
    dsimp only at z1 z2 f
    subst z1 z2 f
    exact ⟨a, _, none, rfl, g, rfl, rfl, trivial⟩
  · obtain ⟨⟨oc, oo, oda, osl⟩, vs, g, ⟨z1, z2⟩, f⟩ := kpE_at ok h1
    dsimp only at z1 z2 f
    subst z1 z2 f
    have y : ∃ mA, h.Ns1 d mA ∧ ∀ f, RelO (fs.lookup f) (mA f) := ok d _ h2
    obtain ⟨mA, ⟨o, es, ep, hd, _⟩, _⟩ := y
    exact ⟨a, _, some o, rfl, g, rfl, rfl, hd⟩
section
variable {X : Cx} {e : Expr} {te : TE} {pos : Pos}
def rIsK (K : PySem.W.Frag) : List V → Hp → VK → Prop := fun xs H Q => ∃ (v c : V) (C : Addr) (cv : Value) (b : Bool), xs = [v, c] ∧ IsK H C v ∧ ExcC K C ∧ (∀ u, RelV c u → u = cv) ∧ PySem.W.kitOne K (.ref C) cv = some b ∧ Q (.bl b) H
theorem call_isK : CallR X (.builtin "isinstance") (rIsK X.K) := by
  intro pins s σ H xs us Q I r h
  obtain ⟨v, c, C, cv, b, rfl, hE, T, hc, e, q⟩ := h
  cases r with
  | cons rx rr =>
    cases rr with
    | cons rt rr =>
      cases rr
      cases hc _ rt
      obtain ⟨a, oe, od, rfl, J⟩ := hE.inst I.hok
      cases rx
      have isC : (PySem.W.clsIn X.K C).isSome = true := (PySem.W.any_some T.hd).elim fun cd h1 => by rw [h1.1]; rfl
      exact PySem.W.kia_one (PySem.W.kitx_exc isC T.hg T.hk T.hs T.ha T.hn T.ht T.hm) I.kIn J e (fun z => nomatch z) fun tk => ⟨.bl b, H, I.kept (t' := tk) fun _ _ z => z, rfl, q⟩
/-- v.n, v a kept exception with its dict -/
def tFldK (K : PySem.W.Frag) (n : Str) (te : TE) : TE := fun σ H Q => te σ H fun x H1 => ∃ (a C d : Addr) (fs : List (Str × V)) (v : V), x = .ref a ∧ XfC K C ∧ PySem.W.findIn K (.ref C) n = some none ∧ H1 a = some (KpE C a (some d)) ∧ H1 d = some (.xd fs) ∧ fs.lookup n = some v ∧ Q v H1
theorem pe_fldK {n : Str} (he : PE X e te) (hb : attributeBase e n X.env (eval e X.env) = eval e X.env := by rfl) : PE X (.Attribute e n pos) (tFldK X.K n te) := by
  refine ⟨fun pins s σ H Q I h => ?_⟩
  refine attr_of hb (thn (he.run pins s σ H _ I h) fun u s1 hh => ?_)
  obtain ⟨x, H1, I1, rx, a, C, d, fs, v, ex, T, hno, ha, hd, l, q⟩ := hh
  subst ex
  cases (show u = Value.ref a from rx)
  obtain ⟨⟨oc, oo, oda, osl⟩, vs, g, ⟨z1, z2⟩, f⟩ := kpE_at I1.hok ha
  dsimp only at z1 z2 f
  subst z1 z2 f
  have y : ∃ mA, s1.heap.Ns1 d mA ∧ ∀ f, RelO (fs.lookup f) (mA f) := I1.hok d _ hd
  obtain ⟨mA, hns, rel⟩ := y
  obtain ⟨o1, ho1, hl⟩ := lookIn_ns hns
  obtain ⟨u, hu, ru⟩ := RelO.some_of (v := v) (o := mA n) (by rw [← l]; exact rel n)
  have J : PySem.W.InstAt s1.heap a _ C (some o1) := ⟨g, rfl, rfl, ho1⟩
  exact HandSPX.exc_get I1.kIn J T.ga T.gg T.exC (PySem.W.findObj_own T.hdC hno rfl (by rw [hl, hu])) (handed_of ru) ⟨v, H1, I1.tok _, ru, q⟩
end
end XI

namespace My
open PySem PySem.Spec PyProof.Rows L2 GX GxR XI
/-! the classes of the refusals: Taken 0, NoKey 1, TooMuch 2, .., HallError 12 -/
structure RefsK (K : PySem.W.Frag) (c : Nat → Addr) : Prop where
  ex : ∀ i, i < 3 → ExcC K (c i)
  kit : ∀ i j, i < 3 → j < 12 → PySem.W.kitOne K (.ref (c i)) (.ref (c j)) = some (decide (i = j))
  val : ∀ i, i < 3 → PySem.W.kitOne K (.ref (c i)) (.type "ValueError") = some true
  exm : ∀ i, i < 3 → PySem.W.exmOne K (.ref (c i)) (.ref (c 12)) = some true
  xf : XfC K (c 2)
  no : PySem.W.findIn K (.ref (c 2)) "time" = some none
structure RefGK (mg : Str → Option Value) (c : Nat → Addr) : Prop where
  m0 : mg "Taken" = some (.ref (c 0))
  m1 : mg "NoKey" = some (.ref (c 1))
  m2 : mg "TooMuch" = some (.ref (c 2))
  m3 : mg "NoHouse" = some (.ref (c 3))
  m4 : mg "NoGang" = some (.ref (c 4))
  m5 : mg "NoGuild" = some (.ref (c 5))
  m6 : mg "NoKind" = some (.ref (c 6))
  m7 : mg "InUse" = some (.ref (c 7))
  m8 : mg "TooMany" = some (.ref (c 8))
  m9 : mg "NoPlan" = some (.ref (c 9))
  m10 : mg "Past" = some (.ref (c 10))
  m11 : mg "BadRow" = some (.ref (c 11))
  m12 : mg "HallError" = some (.ref (c 12))
def excBK (K : PySem.W.Frag) (D : Addr) : Bool :=
  decide (PySem.W.findIn K (.ref D) "__getattribute__" = some (some (.builtin "BaseException.__getattribute__"))) && (decide (PySem.W.findIn K (.ref D) "__getattr__" = some none) && (decide (PySem.W.subIn K (.ref D) (.type "BaseException") = some true) && (PySem.W.hasDictIn K D
    && (decide (PySem.W.findIn K (.ref D) "__class__" = some (some (.builtin "object.__class__"))) && (decide (PySem.W.specialIn K (.builtin "object.__class__") "__get__" = some (some (.builtin "getset_descriptor.__get__"))) && (decide (PySem.W.takesIn K (.builtin "object.__class__") = some true) && decide (PySem.W.mroIn K D (.type "object") = some true)))))))
theorem excBK_ok {K : PySem.W.Frag} {D : Addr} (h : excBK K D = true) : ExcC K D := by
  unfold excBK at h
  simp only [Bool.and_eq_true, decide_eq_true_eq] at h
  obtain ⟨h1, h2, h3, h4, h5, h6, h7, h8⟩ := h
  exact ⟨h1, h2, h3, h4, h5, h6, h7, h8⟩
def refsBK (K : PySem.W.Frag) (cs : List Addr) : Bool :=
  ((List.range 3).all fun i => excBK K (cs.getD i 0) && (((List.range 12).all fun j => decide (PySem.W.kitOne K (.ref (cs.getD i 0)) (.ref (cs.getD j 0)) = some (decide (i = j)))) && (decide (PySem.W.kitOne K (.ref (cs.getD i 0)) (.type "ValueError") = some true)
    && decide (PySem.W.exmOne K (.ref (cs.getD i 0)) (.ref (cs.getD 12 0)) = some true)))) && (xfB K (cs.getD 2 0) && decide (PySem.W.findIn K (.ref (cs.getD 2 0)) "time" = some none))
theorem refsBK_ok {K : PySem.W.Frag} {cs : List Addr} (h : refsBK K cs = true) : RefsK K (fun i => cs.getD i 0) := by
  unfold refsBK at h
  simp only [List.all_eq_true, List.mem_range, Bool.and_eq_true, decide_eq_true_eq] at h
  obtain ⟨h, h1, h2⟩ := h
  exact ⟨fun i hi => excBK_ok (h i hi).1, fun i j hi hj => (h i hi).2.1 j hj, fun i hi => (h i hi).2.2.1, fun i hi => (h i hi).2.2.2, xfB_ok h1, h2⟩
section
variable {X : Cx}
theorem pe_isK {e : Expr} {te : TE} {x : Str} {a : Addr} {p1 p2 p5 : Pos} (T : Txt X.mg) (g1 : Gl X "isinstance") (g2 : Gl X x) (m2 : X.mg x = some (.ref a)) (he : PE X e te) (hd : (x == ("__debug__" : Str)) = false := by decide)
    (h1 : starEach [e, .Name x p2] X.env = (false, eval e X.env) :: starEach [.Name x p2] X.env := by rfl) :
    PE X (.Call (.Name "isinstance" p1) [e, .Name x p2] [] p5) (tCB (rIsK X.K) (tCons te (tCons (tC (.ref a)) tNil))) :=
  pe_callB call_isK g1 T.isi (by decide +kernel) (pa_cons he (pa_cons (pe_glob (v := .ref a) g2 m2 rfl hd) pa_nil) h1) (by decide) (by decide) h1
theorem pe_isKV {e : Expr} {te : TE} {p1 p2 p5 : Pos} (T : Txt X.mg) (g1 : Gl X "isinstance") (g2 : Gl X "ValueError") (m2 : X.mg "ValueError" = none) (he : PE X e te)
    (h1 : starEach [e, .Name "ValueError" p2] X.env = (false, eval e X.env) :: starEach [.Name "ValueError" p2] X.env := by rfl) :
    PE X (.Call (.Name "isinstance" p1) [e, .Name "ValueError" p2] [] p5) (tCB (rIsK X.K) (tCons te (tCons (tC (.ty "ValueError")) tNil))) :=
  pe_callB call_isK g1 T.isi (by decide +kernel) (pa_cons he (pa_cons (pe_bltn g2 m2 PyProof.Rows.Boot.«ValueError» rfl) pa_nil) h1) (by decide) (by decide) h1
end
/-- own exceptions without an __init__ -/
def excPB (K : PySem.W.Frag) (C : Addr) : Bool := PySem.W.excIn K C [.type "ValueError", .type "Exception", .type "BaseException", .type "object"] "ValueError.__new__" && (PySem.W.keepIn K (.ref C) && (decide (PySem.W.subIn K (.ref C) (.type "BaseException") = some true) && decide (PySem.W.typeIn K (.ref C) = some (.type "type"))))
theorem excPB_ok {K : PySem.W.Frag} {mg : Str → Option Value} {nam : Str} {C : Addr} (g : mg nam = some (.ref C)) (h : excPB K C = true) : ExcP K mg nam C := by
  unfold excPB at h
  simp only [Bool.and_eq_true, decide_eq_true_eq] at h
  exact ⟨h.1, g, h.2.1, h.2.2.1, h.2.2.2⟩
def ownBK (K : PySem.W.Frag) (C fI : Addr) (f : Str) : Bool :=
  decide (PySem.W.findIn K (.ref C) "__setattr__" = some (some (.builtin "object.__setattr__"))) && (decide (PySem.W.typeIn K (.ref C) = some (.type "type")) && (PySem.W.keepIn K (.ref C) && (decide (PySem.W.findIn K (.ref C) "__init__" = some (some (.ref fI))) && (decide (PySem.W.typeIn K (.ref fI) = some (.type "function"))
    && (xfB K C && (decide (PySem.W.findIn K (.ref C) f = some none) && (decide (PySem.W.mroIn K C (.ref C) = some true) && (decide (PySem.W.ks_superIn K C C "__init__" = some (some (.builtin "ValueError.__init__"))) && (decide (PySem.W.subIn K (.ref C) (.type "ValueError") = some true) && decide (PySem.W.nsIn K cStatics "thirdparty.any" = some none))))))))))
/-- the class of books -/
def bookB (K : PySem.W.Frag) (C : Addr) : Bool := PySem.W.plainGet K C Str.empty && (PySem.W.hasDictIn K C && (PySem.W.plainOver K C && (decide (PySem.W.findIn K (.ref C) "__setattr__" = some (some (.builtin "object.__setattr__"))) && (decide (PySem.W.findIn K (.ref C) "room" = some none) && (decide (PySem.W.findIn K (.ref C) "entries" = some none)
  && (decide (PySem.W.findIn K (.ref C) "lefts" = some none) && (PySem.W.makesIn K C && PySem.W.keepIn K (.ref C))))))))
theorem bookB_ok {K : PySem.W.Frag} {C : Addr} (h : bookB K C = true) : BCls K C ∧ ∀ f, PySem.W.findIn K (.ref C) "__init__" = some (some (.ref f)) → PySem.W.isFn K (.ref f) = true → Mk K C f := by
  unfold bookB at h
  simp only [Bool.and_eq_true, decide_eq_true_eq] at h
  obtain ⟨h1, h2, h3, h4, h5, h6, h7, h8, h9⟩ := h
  exact ⟨⟨⟨h1, h2, h3, h4⟩, h5, h6, h7⟩, fun f a b => ⟨h8, a, b, h9⟩⟩
end My

namespace My
open PySem PySem.Spec PyProof.Rows L2 GX GxR XI
abbrev s_scKWord : Stmt := topS 45
abbrev n_scKWord : List Str := ["_law_e", "_law_words", "_law_told_here", "_law_some", "_law_word_here", "_law_one"]
theorem scKWord : FnScope n_scKWord ["_law_e"] (defScope s_scKWord) := ⟨rfl, rfl, rfl, by decide +kernel, rfl, by decide +kernel, by decide +kernel⟩
abbrev s_scKTold : Stmt := topS 46
abbrev n_scKTold : List Str := ["_law_book", "_law_deed_here", "_law_told_here", "_law_error", "_law_e"]
theorem scKTold : FnScope n_scKTold ["_law_book", "_law_deed_here"] (defScope s_scKTold) := ⟨rfl, rfl, rfl, by decide +kernel, rfl, by decide +kernel, by decide +kernel⟩
def wordsL : List Str := ["Taken", "NoKey", "TooMuch", "NoHouse", "NoGang", "NoGuild", "NoKind", "InUse", "TooMany", "NoPlan", "Past", "BadRow"]
def marksB (i : Nat) : List Bool := [decide (i = 0), decide (i = 1), decide (i = 2), decide (i = 3), decide (i = 4), decide (i = 5), decide (i = 6), decide (i = 7), decide (i = 8), decide (i = 9), decide (i = 10), decide (i = 11)]
def wordI (i : Nat) : Str := wordsL.getD i ""
def someW (i j : Nat) : List Str := (((wordsL.zip (marksB i)).take j).filter (·.2)).map (·.1)
theorem someW_all : ∀ i, i < 3 → someW i 12 = [wordI i] := by decide +kernel
def spWord (c : Nat → Addr) : Sp := fun vs H Q _ => ∃ (v : V) (i : Nat), vs = [v] ∧ i < 3 ∧ IsK H (c i) v ∧ ∀ H', Same H H' → Q (.str (wordI i)) H'
section
variable {P : Program} {w : World} {K : PySem.W.Frag} {mg : Str → Option Value} {base : Heap}
set_option maxHeartbeats 1000000 in
theorem ok_kword {f : Addr} {fd : FuncData} {k : Nat} {c : Nat → Addr} (F : Fun K "_law_word" "_law_word" s_scKWord f fd) (X : Txt mg) (R : RefsK K c) (G : RefGK mg c) (mV : mg "ValueError" = none) : FnOk P w K mg base CX0 (k + 1) f fd ["_law_e"] (spWord c) := by
  refine F.ok scKWord (fun vs H Q E h => ?_) (fun cdv A outer s H vs Q E hr h => ?_)
  · obtain ⟨v, i, rfl, _⟩ := h
    rfl
  · obtain ⟨v, i, rfl, hi, hE, q⟩ := h
    refine ⟨_, (pss_cons (ps_set (i := 1) scKWord.nd rfl (.inl rfl) (pe_lst (pa_cons pe_str (pa_cons pe_str (pa_cons pe_str (pa_cons pe_str (pa_cons pe_str (pa_cons pe_str (pa_cons pe_str (pa_cons pe_str (pa_cons pe_str (pa_cons pe_str pa_nil))))))))))))
      (pss_cons (ps_set (i := 1) scKWord.nd rfl (.inl rfl) (pe_op op_cat (pv 1) (pe_lst (pa_cons pe_str (pa_cons pe_str pa_nil)))))
      (pss_cons (ps_set (i := 2) scKWord.nd rfl (.inl rfl) (pe_lst (pa_cons (pe_isK X (by rfl) (by rfl) G.m0 (pv 0)) (pa_cons (pe_isK X (by rfl) (by rfl) G.m1 (pv 0)) (pa_cons (pe_isK X (by rfl) (by rfl) G.m2 (pv 0)) (pa_cons (pe_isK X (by rfl) (by rfl) G.m3 (pv 0)) pa_nil))))))
      (pss_cons (ps_set (i := 2) scKWord.nd rfl (.inl rfl) (pe_op op_cat (pv 2) (pe_lst (pa_cons (pe_isK X (by rfl) (by rfl) G.m4 (pv 0)) (pa_cons (pe_isK X (by rfl) (by rfl) G.m5 (pv 0)) (pa_cons (pe_isK X (by rfl) (by rfl) G.m6 (pv 0)) (pa_cons (pe_isK X (by rfl) (by rfl) G.m7 (pv 0)) pa_nil)))))))
      (pss_cons (ps_set (i := 2) scKWord.nd rfl (.inl rfl) (pe_op op_cat (pv 2) (pe_lst (pa_cons (pe_isK X (by rfl) (by rfl) G.m8 (pv 0)) (pa_cons (pe_isK X (by rfl) (by rfl) G.m9 (pv 0)) (pa_cons (pe_isK X (by rfl) (by rfl) G.m10 (pv 0)) (pa_cons (pe_isK X (by rfl) (by rfl) G.m11 (pv 0)) pa_nil)))))))
      (pss_cons (ps_setLc (i := 3) (own := [("_law_word_here", 4), ("_law_one", 5)]) (g := (gTup K 2 (gCons (gName 4) (gCons (gName 5) gNil)))) rfl scKWord.nd rfl rfl (sw_true rfl rfl rfl (by decide +kernel)) (RZ.pi_zipA (by rfl) X.zip (pa_cons (pv 1) (pa_cons (pv 2) pa_nil))) (blkOk_by (own := [("_law_word_here", 4), ("_law_one", 5)]) (N := n_scKWord) (sc := defScope s_scKWord) (by decide +kernel)) (fun _ _ _ _ _ => (pg_tup rfl (pgs_cons (pg_name (i := 4) scKWord.nd rfl (.inl rfl)) (pgs_cons (pg_name (i := 5) scKWord.nd rfl (.inl rfl)) pgs_nil)))) (fun _ _ _ _ _ => pts_one (pt_val (pv 5))) (fun _ _ _ _ _ => (pv 4)))
      (pss_cons (ps_if (PW.pt (pw_or (pt_cmpR op_ne (pe_callB call_len_seq (by rfl) X.len PySem.boot_len (pa_cons (pv 3) pa_nil)) pe_int (nomark _)) (pw_or1 (pt_not (pt_val (pe_isKV X (by rfl) (by rfl) mV (pv 0)))))))
        (pss_one (ps_ret pe_str))
        pss_nil)
      (pss_one (ps_ret (pe_ix ix_list (pv 3) pe_int (fun _ _ => rfl))))))))))), ?_⟩
    have kt := fun j (hj : j < 12) => R.kit i j hi hj
    have tx := R.ex i hi
    refine ⟨by show 10 ≤ sizeLine; decide, fun l1 n1 => ?_⟩
    have s1 := same_upd (o := .lst [V.str "Taken", .str "NoKey", .str "TooMuch", .str "NoHouse", .str "NoGang", .str "NoGuild", .str "NoKind", .str "InUse", .str "TooMany", .str "NoPlan"]) n1
    refine ⟨_, rfl, by show 2 ≤ sizeLine; decide, fun l2 n2 => ⟨l1, l2, _, _, rfl, rfl, same_upd n2 _ _ upd_same, upd_same, by show 12 ≤ sizeLine; decide, fun l3 n3 => ?_⟩⟩
    have s3 := (s1.trans (same_upd (o := .lst [V.str "Past", .str "BadRow"]) n2)).trans (same_upd (o := .lst ([V.str "Taken", .str "NoKey", .str "TooMuch", .str "NoHouse", .str "NoGang", .str "NoGuild", .str "NoKind", .str "InUse", .str "TooMany", .str "NoPlan"] ++ [V.str "Past", .str "BadRow"])) n3)
    have e3 : upd (upd (upd H l1 (.lst [V.str "Taken", .str "NoKey", .str "TooMuch", .str "NoHouse", .str "NoGang", .str "NoGuild", .str "NoKind", .str "InUse", .str "TooMany", .str "NoPlan"])) l2 (.lst [V.str "Past", .str "BadRow"])) l3 (.lst ([V.str "Taken", .str "NoKey", .str "TooMuch", .str "NoHouse", .str "NoGang", .str "NoGuild", .str "NoKind", .str "InUse", .str "TooMany", .str "NoPlan"] ++ [V.str "Past", .str "BadRow"])) l3 = some (.lst (wordsL.map V.str)) := upd_same
    generalize upd (upd (upd H l1 (.lst [V.str "Taken", .str "NoKey", .str "TooMuch", .str "NoHouse", .str "NoGang", .str "NoGuild", .str "NoKind", .str "InUse", .str "TooMany", .str "NoPlan"])) l2 (.lst [V.str "Past", .str "BadRow"])) l3 (.lst ([V.str "Taken", .str "NoKey", .str "TooMuch", .str "NoHouse", .str "NoGang", .str "NoGuild", .str "NoKind", .str "InUse", .str "TooMany", .str "NoPlan"] ++ [V.str "Past", .str "BadRow"])) = H3 at s3 e3 ⊢
    refine ⟨_, rfl, v, .ref (c 0), c i, .ref (c 0), _, rfl, hE.same s3, tx, fun u z => z, kt 0 (by decide), _, rfl, v, .ref (c 1), c i, .ref (c 1), _, rfl, hE.same s3, tx, fun u z => z, kt 1 (by decide), _, rfl, v, .ref (c 2), c i, .ref (c 2), _, rfl, hE.same s3, tx, fun u z => z, kt 2 (by decide), _, rfl, v, .ref (c 3), c i, .ref (c 3), _, rfl, hE.same s3, tx, fun u z => z, kt 3 (by decide), by show 4 ≤ sizeLine; decide, fun p1 m1 => ?_⟩
    have s4 := s3.trans (same_upd (o := .lst [V.bl (decide (i = 0)), .bl (decide (i = 1)), .bl (decide (i = 2)), .bl (decide (i = 3))]) m1)
    have e4 := same_upd (o := .lst [V.bl (decide (i = 0)), .bl (decide (i = 1)), .bl (decide (i = 2)), .bl (decide (i = 3))]) m1 _ _ e3
    have f4 : upd H3 p1 (.lst [V.bl (decide (i = 0)), .bl (decide (i = 1)), .bl (decide (i = 2)), .bl (decide (i = 3))]) p1 = some (.lst [V.bl (decide (i = 0)), .bl (decide (i = 1)), .bl (decide (i = 2)), .bl (decide (i = 3))]) := upd_same
    generalize upd H3 p1 (.lst [V.bl (decide (i = 0)), .bl (decide (i = 1)), .bl (decide (i = 2)), .bl (decide (i = 3))]) = H4 at s4 e4 f4 ⊢
    refine ⟨_, rfl, _, rfl, v, .ref (c 4), c i, .ref (c 4), _, rfl, hE.same s4, tx, fun u z => z, kt 4 (by decide), _, rfl, v, .ref (c 5), c i, .ref (c 5), _, rfl, hE.same s4, tx, fun u z => z, kt 5 (by decide), _, rfl, v, .ref (c 6), c i, .ref (c 6), _, rfl, hE.same s4, tx, fun u z => z, kt 6 (by decide), _, rfl, v, .ref (c 7), c i, .ref (c 7), _, rfl, hE.same s4, tx, fun u z => z, kt 7 (by decide), by show 4 ≤ sizeLine; decide, fun p2 m2 => ⟨p1, p2, _, _, rfl, rfl, same_upd m2 _ _ f4, upd_same, by show 8 ≤ sizeLine; decide, fun p3 m3 => ?_⟩⟩
    have s5 := (s4.trans (same_upd (o := .lst [V.bl (decide (i = 4)), .bl (decide (i = 5)), .bl (decide (i = 6)), .bl (decide (i = 7))]) m2)).trans (same_upd (o := .lst ([V.bl (decide (i = 0)), .bl (decide (i = 1)), .bl (decide (i = 2)), .bl (decide (i = 3))] ++ [V.bl (decide (i = 4)), .bl (decide (i = 5)), .bl (decide (i = 6)), .bl (decide (i = 7))])) m3)
    have e5 := same_upd (o := .lst ([V.bl (decide (i = 0)), .bl (decide (i = 1)), .bl (decide (i = 2)), .bl (decide (i = 3))] ++ [V.bl (decide (i = 4)), .bl (decide (i = 5)), .bl (decide (i = 6)), .bl (decide (i = 7))])) m3 _ _ (same_upd (o := .lst [V.bl (decide (i = 4)), .bl (decide (i = 5)), .bl (decide (i = 6)), .bl (decide (i = 7))]) m2 _ _ e4)
    have f5 : upd (upd H4 p2 (.lst [V.bl (decide (i = 4)), .bl (decide (i = 5)), .bl (decide (i = 6)), .bl (decide (i = 7))])) p3 (.lst ([V.bl (decide (i = 0)), .bl (decide (i = 1)), .bl (decide (i = 2)), .bl (decide (i = 3))] ++ [V.bl (decide (i = 4)), .bl (decide (i = 5)), .bl (decide (i = 6)), .bl (decide (i = 7))])) p3 = some (.lst ([V.bl (decide (i = 0)), .bl (decide (i = 1)), .bl (decide (i = 2)), .bl (decide (i = 3))] ++ [V.bl (decide (i = 4)), .bl (decide (i = 5)), .bl (decide (i = 6)), .bl (decide (i = 7))])) := upd_same
    generalize upd (upd H4 p2 (.lst [V.bl (decide (i = 4)), .bl (decide (i = 5)), .bl (decide (i = 6)), .bl (decide (i = 7))])) p3 (.lst ([V.bl (decide (i = 0)), .bl (decide (i = 1)), .bl (decide (i = 2)), .bl (decide (i = 3))] ++ [V.bl (decide (i = 4)), .bl (decide (i = 5)), .bl (decide (i = 6)), .bl (decide (i = 7))])) = H5 at s5 e5 f5 ⊢
    refine ⟨_, rfl, _, rfl, v, .ref (c 8), c i, .ref (c 8), _, rfl, hE.same s5, tx, fun u z => z, kt 8 (by decide), _, rfl, v, .ref (c 9), c i, .ref (c 9), _, rfl, hE.same s5, tx, fun u z => z, kt 9 (by decide), _, rfl, v, .ref (c 10), c i, .ref (c 10), _, rfl, hE.same s5, tx, fun u z => z, kt 10 (by decide), _, rfl, v, .ref (c 11), c i, .ref (c 11), _, rfl, hE.same s5, tx, fun u z => z, kt 11 (by decide), by show 4 ≤ sizeLine; decide, fun p4 m4 => ⟨p3, p4, _, _, rfl, rfl, same_upd m4 _ _ f5, upd_same, by show 12 ≤ sizeLine; decide, fun p5 m5 => ?_⟩⟩
    have s6 := (s5.trans (same_upd (o := .lst [V.bl (decide (i = 8)), .bl (decide (i = 9)), .bl (decide (i = 10)), .bl (decide (i = 11))]) m4)).trans (same_upd (o := .lst ([V.bl (decide (i = 0)), .bl (decide (i = 1)), .bl (decide (i = 2)), .bl (decide (i = 3))] ++ [V.bl (decide (i = 4)), .bl (decide (i = 5)), .bl (decide (i = 6)), .bl (decide (i = 7))] ++ [V.bl (decide (i = 8)), .bl (decide (i = 9)), .bl (decide (i = 10)), .bl (decide (i = 11))])) m5)
    have e6 := same_upd (o := .lst ([V.bl (decide (i = 0)), .bl (decide (i = 1)), .bl (decide (i = 2)), .bl (decide (i = 3))] ++ [V.bl (decide (i = 4)), .bl (decide (i = 5)), .bl (decide (i = 6)), .bl (decide (i = 7))] ++ [V.bl (decide (i = 8)), .bl (decide (i = 9)), .bl (decide (i = 10)), .bl (decide (i = 11))])) m5 _ _ (same_upd (o := .lst [V.bl (decide (i = 8)), .bl (decide (i = 9)), .bl (decide (i = 10)), .bl (decide (i = 11))]) m4 _ _ e5)
    have f6 : upd (upd H5 p4 (.lst [V.bl (decide (i = 8)), .bl (decide (i = 9)), .bl (decide (i = 10)), .bl (decide (i = 11))])) p5 (.lst ([V.bl (decide (i = 0)), .bl (decide (i = 1)), .bl (decide (i = 2)), .bl (decide (i = 3))] ++ [V.bl (decide (i = 4)), .bl (decide (i = 5)), .bl (decide (i = 6)), .bl (decide (i = 7))] ++ [V.bl (decide (i = 8)), .bl (decide (i = 9)), .bl (decide (i = 10)), .bl (decide (i = 11))])) p5 = some (.lst ((marksB i).map V.bl)) := upd_same
    generalize upd (upd H5 p4 (.lst [V.bl (decide (i = 8)), .bl (decide (i = 9)), .bl (decide (i = 10)), .bl (decide (i = 11))])) p5 (.lst ([V.bl (decide (i = 0)), .bl (decide (i = 1)), .bl (decide (i = 2)), .bl (decide (i = 3))] ++ [V.bl (decide (i = 4)), .bl (decide (i = 5)), .bl (decide (i = 6)), .bl (decide (i = 7))] ++ [V.bl (decide (i = 8)), .bl (decide (i = 9)), .bl (decide (i = 10)), .bl (decide (i = 11))])) = H6 at s6 e6 f6 ⊢
    -- the one word
    refine ⟨_, rfl, _, rfl, l3, p5, _, _, rfl, .inl ⟨SqL.of e6, SqL.of f6, fun D nD => ?_⟩⟩
    refine lc_it (walk_zip (xs := wordsL.map V.str) (ys := (marksB i).map V.bl) (n := 12) rfl) (fun j H' => Same H6 H' ∧ H' D = some (.lst ((someW i j).map V.str))) ⟨same_upd nD, upd_same⟩ (fun j H' _ p => ⟨SqL.of (p.1 _ _ e6), SqL.of (p.1 _ _ f6)⟩) (fun j x Ha Hb hj p y => ?_) (fun H7 p => ?_)
    · obtain ⟨T1, x1, x2, rfl, nT, rfl, g1, g2⟩ := y
      obtain ⟨q1, q2⟩ := p
      obtain ⟨w1, hw1, rfl⟩ := map_get g1
      obtain ⟨b1, hb1, rfl⟩ := map_get g2
      have sT : Same Ha (upd Ha T1 (.tup [.str w1, .bl b1])) := same_upd nT
      have tk : someW i (j + 1) = someW i j ++ (if b1 = true then [w1] else []) := by
        have hz : (wordsL.zip (marksB i))[j]? = some (w1, b1) := by
          rw [List.getElem?_zip_eq_some]
          exact ⟨hw1, hb1⟩
        unfold someW
        rw [List.take_add_one, hz, List.filter_append, List.map_append]
        congr 1
        cases b1 <;> rfl
      have lw : (someW i j).length ≤ 12 := by
        unfold someW
        rw [List.length_map]
        refine Nat.le_trans (List.length_filter_le _ _) ?_
        rw [List.length_take]
        exact Nat.le_trans (Nat.min_le_right _ _) (by show 12 ≤ 12; decide)
      refine ⟨T1, _, rfl, SqT.of upd_same, rfl, _, _, rfl, _, _, rfl, rfl, ?_⟩
      refine ⟨rfl, ?_⟩
      refine ⟨_, rfl, b1, rfl, ite2 (fun g => ?_) (fun g => ?_)⟩
      · refine ⟨_, rfl, _, sT _ _ q2, ?_, same_put (q1.trans sT) nD, ?_⟩
        · rw [List.length_map]
          exact small63 (by omega)
        · rw [upd_same, tk, if_pos g, List.map_append]
          rfl
      · refine ⟨q1.trans sT, ?_⟩
        rw [tk, if_neg g, List.append_nil]
        exact sT _ _ q2
    · obtain ⟨q1, q2⟩ := p
      rw [someW_all i hi] at q2
      have s7 := s6.trans q1
      refine ⟨_, rfl, D, _, rfl, .inl (SqL.of q2), rfl, false, rfl, iteF ?_⟩
      refine ⟨_, rfl, v, .ty "ValueError", c i, .type "ValueError", _, rfl, hE.same s7, tx, fun u z => z, R.val i hi, true, rfl, iteF ?_⟩
      exact ⟨_, rfl, D, _, 0, .str (wordI i), rfl, rfl, SqL.of q2, rfl, q _ s7⟩
end
end My

namespace My
open PySem PySem.Spec PyProof.Rows L2 GX GxR XI
theorem kp_freeS {S : List Addr} {H H' : Hp} {p : Addr} (k : Kp S H H') (np : p ∉ S) (n : H' p = none) : H p = none := by
  cases e : H p with
  | none => rfl
  | some o =>
    have := k _ _ np e
    rw [n] at this
    cases this
theorem kp_newS {S : List Addr} {H H' : Hp} {p : Addr} {o : HO} (k : Kp S H H') (n : H' p = none) : Kp S H (upd H' p o) := fun x u nx e => same_upd n _ _ (k _ _ nx e)
section
variable {H H' : Hp} {Ts : List Addr} {C a dx m d : Addr} {Z : List Str} {room : List Int} {rs : List Bw}
theorem Bk.fw (b : Bk H Ts C a dx m d Z room rs) (f : Fw Ts H H') : Bk H' Ts C a dx m d Z room rs := by
  obtain ⟨⟨lv, ps, B, L⟩, h3, h4, h5, h6⟩ := b
  have kt := f.kt h4
  refine ⟨⟨lv, ps, ⟨f.obj h4 B.obj fun _ z => (nomatch z), kt _ _ B.rm, f.obj h4 B.en fun _ z => (nomatch z), B.prs.mono fun _ _ x => x.kt kt, B.nd, B.few, B.ok, B.r1, B.r20⟩, ?_⟩, h3, f.tabs, h5, h6⟩
  rcases L with h | ⟨l, ls, ks, e, h1, h2, h3⟩
  · exact .inl h
  · exact .inr ⟨l, ls, ks, e, f.lst h4 h1, h2, h3.mono fun _ _ x => x.kt kt⟩
theorem Bk.off (b : Bk H Ts C a dx m d Z room rs) {p : Addr} (n : H p = none) : p ∉ a :: d :: Ts := fun z => by
  obtain ⟨lv, ps, B, L⟩ := b.at_
  rcases List.mem_cons.mp z with z | z
  · rw [z, B.obj] at n; cases n
  · rcases List.mem_cons.mp z with z | z
    · rw [z, B.en] at n; cases n
    · obtain ⟨ps', h1, _⟩ := b.tabs p z
      rw [n] at h1; cases h1
end
def spTold (Ts : List Addr) (C : Addr) : Sp := fun vs H Q _ => ∃ (a dx m d pd : Addr) (Z : List Str) (room : List Int) (rs : List Bw) (dd : Deed), vs = [.ref a, .ref pd] ∧ Bk H Ts C a dx m d Z room rs ∧ rs.length < 109 ∧ DeedAt H pd dd ∧ DeedOk Z room dd ∧
  ∀ t w o rs' H', DueR room rs dd w o rs' → H t = none → OutAt H' t w o → Kp (a :: d :: Ts) H H' → Bk H' Ts C a dx m d Z room rs' → Q (.ref t) H'
section
variable {P : Program} {w : World} {K : PySem.W.Frag} {mg : Str → Option Value} {base : Heap}
set_option maxHeartbeats 1000000 in
theorem ok_ktold {f fC fW C : Addr} {fd fdC fdW : FuncData} {k : Nat} {c : Nat → Addr} {Ts : List Addr} (F : Fun K "_law_told" "_law_told" s_scKTold f fd) (X : Txt mg) (R : RefsK K c) (G : RefGK mg c)
    (GC : FnOk P w K mg base (L2.CX P w) k fC fdC ["_law_book", "_law_deed_here"] (spCalled Ts C (c 2) (c 0) (c 1))) (mC : mg "_law_called" = some (.ref fC)) (kC : PySem.W.keepIn K (.ref fC) = true) (bC : L2.Binds K fdC ["_law_book", "_law_deed_here"] [])
    (GW : FnOk P w K mg base CX0 k fW fdW ["_law_e"] (spWord c)) (mW : mg "_law_word" = some (.ref fW)) (kW : PySem.W.keepIn K (.ref fW) = true) (bW : L2.Binds K fdW ["_law_e"] []) :
    FnOk P w K mg base CX0 (k + 1) f fd ["_law_book", "_law_deed_here"] (spTold Ts C) := by
  refine F.ok scKTold (fun vs H Q E h => ?_) (fun cdv A outer s H vs Q E hr h => ?_)
  · obtain ⟨a, dx, m, d, pd, Z, room, rs, dd, rfl, _⟩ := h
    rfl
  · obtain ⟨a, dx, m, d, pd, Z, room, rs, dd, rfl, bk, few, hD, ok, q⟩ := h
    refine ⟨_, pss_cons (ps_asg (pe_tup (pa_cons pe_non (pa_cons pe_non pa_nil))) (pg_tup rfl (pgs_cons (pg_name (i := 2) scKTold.nd rfl (.inl rfl)) (pgs_cons (pg_name (i := 3) scKTold.nd rfl (.inl rfl)) pgs_nil))))
      (C8.pss_cut (ps_try_keep (i := 4) rfl rfl scKTold.nd rfl rfl rfl ⟨rfl, by decide, .inl G.m12⟩
        (fun W pn xe tk => pss_one (ps_set (i := 2) scKTold.nd rfl (.inl rfl) (pe_callS GC hr (by rfl) mC kC bC (fun σ => passAt tk σ) (pa_cons (pv 0) (pa_cons (pv 1) pa_nil)))))
        (fun _ _ => pss_one (ps_set (i := 3) scKTold.nd rfl (.inl rfl) (pv 4))))
      (pss_cons (ps_if (pt_cmpR op_isN (pv 3) pe_non (nomark _)) (pss_one (ps_ret (pe_tup (pa_cons pe_str (pa_cons (pv 2) pa_nil))))) pss_nil)
      (pss_one (ps_ret (pe_tup (pa_cons (pe_call GW hr (by rfl) mW kW bW .nil pass0 (pa_cons (pv 3) pa_nil)) (pa_cons (pe_ifExp (pt_val (pe_isK X (by rfl) (by rfl) G.m2 (pv 3))) (pe_fldK (pv 3) (by rfl)) pe_non) pa_nil))))))), ?_⟩
    refine ⟨by show 2 ≤ sizeLine; decide, fun T0 nT0 => ⟨T0, _, rfl, SqT.of upd_same, rfl, _, _, rfl, _, _, rfl, rfl, ?_⟩⟩
    have s0 := same_upd (o := .tup [V.non, .non]) nT0
    generalize upd H T0 (.tup [V.non, .non]) = H0 at s0 ⊢
    have bk0 := bk
    have hD0 := hD
    replace q : ∀ t w o rs' H', DueR room rs dd w o rs' → H0 t = none → OutAt H' t w o → Kp (a :: d :: Ts) H0 H' → Bk H' Ts C a dx m d Z room rs' → Q (.ref t) H' := fun t w o rs' H' h1 h2 h3 h4 h5 => q t w o rs' H' h1 (s0.free h2) h3 ((Same.kp _ s0).trans h4) h5
    replace bk := bk.same s0
    replace hD := hD.kt (Same.kt s0)
    refine ⟨fun σ H' => (∃ v o rs', σ = [some (.ref a), some (.ref pd), some v, some .non, none] ∧ DueR room rs dd "told" o rs' ∧ OutV H' v o ∧ Kp (a :: d :: Ts) H0 H' ∧ Bk H' Ts C a dx m d Z room rs')
      ∨ (∃ (i : Nat) (e : Addr) (o : Out), i < 3 ∧ σ = [some (.ref a), some (.ref pd), some .non, some (.ref e), none] ∧ DueR room rs dd (wordI i) o rs ∧ Kp (a :: d :: Ts) H0 H' ∧ Bk H' Ts C a dx m d Z room rs ∧ IsK H' (c i) (.ref e) ∧ (i = 2 → ∃ dE t, o = .time t ∧ H' e = some (KpE (c 2) e (some dE)) ∧ H' dE = some (.xd [("time", .int t)])) ∧ (i ≠ 2 → o = .no)), ?_, fun σ H' hm => ?_⟩
    · refine ⟨_, rfl, _, rfl, a, dx, m, d, pd, Z, room, rs, dd, rfl, bk, few, hD, ok, fun v o rs' H' due out kp bk' => .inl ⟨v, o, rs', rfl, due, out, kp, bk'⟩, fun due => ?_, fun due => ?_, fun t dE H' due fw nE eE => ?_⟩
      · refine ⟨c 0, rfl, R.exm 0 (by decide), fun e ne => ⟨_, rfl, .inr ⟨0, e, .no, by decide, rfl, due, Same.kp _ (same_upd ne), bk.same (same_upd ne), ⟨e, rfl, .inl upd_same⟩, (fun z => nomatch z), fun _ => rfl⟩⟩⟩
      · refine ⟨c 1, rfl, R.exm 1 (by decide), fun e ne => ⟨_, rfl, .inr ⟨1, e, .no, by decide, rfl, due, Same.kp _ (same_upd ne), bk.same (same_upd ne), ⟨e, rfl, .inl upd_same⟩, (fun z => nomatch z), fun _ => rfl⟩⟩⟩
      · refine ⟨c 2, rfl, R.exm 2 (by decide), fun e ne => ⟨_, rfl, .inr ⟨2, e, .time t, by decide, rfl, due, ?_, (bk.fw fw).same (same_upd ne), ⟨e, rfl, .inr ⟨dE, _, upd_same, same_upd ne _ _ eE⟩⟩, fun _ => ⟨dE, t, rfl, upd_same, same_upd ne _ _ eE⟩, fun z => absurd rfl z⟩⟩⟩
        exact kp_newS (fw.kp.mono fun x hx => List.mem_cons_of_mem _ (List.mem_cons_of_mem _ hx)) ne
    · rcases hm with ⟨v, o, rs', rfl, due, out, kp, bk'⟩ | ⟨i, e, o, hi, rfl, due, kp, bk', isk, h2, hn2⟩
      · refine ⟨_, rfl, rfl, true, rfl, iteT ?_⟩
        refine ⟨_, rfl, by show 2 ≤ sizeLine; decide, fun t nt => ?_⟩
        refine q t "told" o rs' _ due (kp_freeS kp (bk'.off nt) nt) ?_ (kp_newS kp nt) (bk'.same (same_upd nt))
        cases o with
        | no => rw [show v = .non from out]; exact upd_same
        | time x => exact (show False from out).elim
        | keys zs =>
          obtain ⟨l, rfl, hl⟩ := out
          exact ⟨l, upd_same, same_upd nt _ _ hl⟩
      · refine ⟨_, rfl, rfl, false, rfl, iteF ?_⟩
        refine ⟨_, rfl, .ref e, i, rfl, hi, isk, fun H1 s1 => ?_⟩
        refine ⟨_, rfl, .ref e, .ref (c 2), c i, .ref (c 2), _, rfl, isk.same s1, R.ex i hi, fun u z => z, R.kit i 2 hi (by decide), _, rfl, ite2 (fun g => ?_) (fun g => ?_)⟩
        · have i2 : i = 2 := of_decide_eq_true g
          subst i2
          obtain ⟨dE, t1, rfl, g1, g2⟩ := h2 rfl
          refine ⟨_, rfl, e, c 2, dE, _, .int t1, rfl, R.xf, R.no, s1 _ _ g1, s1 _ _ g2, rfl, by show 2 ≤ sizeLine; decide, fun t nt => ?_⟩
          have kp1 := kp.trans (Same.kp _ s1)
          have bk1 := bk'.same s1
          exact q t _ _ rs _ due (kp_freeS kp1 (bk1.off nt) nt) upd_same (kp_newS kp1 nt) (bk1.same (same_upd nt))
        · have o0 := hn2 fun z => g (decide_eq_true z)
          subst o0
          refine ⟨by show 2 ≤ sizeLine; decide, fun t nt => ?_⟩
          have kp1 := kp.trans (Same.kp _ s1)
          have bk1 := bk'.same s1
          exact q t _ _ rs _ due (kp_freeS kp1 (bk1.off nt) nt) upd_same (kp_newS kp1 nt) (bk1.same (same_upd nt))
end
end My

namespace My
open PySem PySem.Spec PyProof.Rows L2 GX GxR
abbrev s_scAlk : Stmt := topS 47
abbrev n_scAlk : List Str := ["_law_found", "_law_due_here", "_law_one", "_law_other"]
theorem scAlk : FnScope n_scAlk ["_law_found", "_law_due_here"] (defScope s_scAlk) := ⟨rfl, rfl, rfl, by decide +kernel, rfl, by decide +kernel, by decide +kernel⟩
def Leaf6 (x y : V) : Prop := (∃ i, x = .int i ∧ y = .int i) ∨ (∃ z, x = .str z ∧ y = .str z) ∨ (x = .non ∧ y = .non)
def Al6 (H : Hp) : Nat → V → V → Prop
  | 0, x, y => Leaf6 x y
  | n + 1, x, y => Leaf6 x y ∨ ∃ (a b : Addr) (xs ys : List V), x = .ref a ∧ y = .ref b ∧ ((H a = some (.lst xs) ∧ H b = some (.lst ys)) ∨ (H a = some (.tup xs) ∧ H b = some (.tup ys))) ∧ xs.length = ys.length ∧ xs.length < 100000 ∧
      ∀ (i : Nat) (x y : V), xs[i]? = some x → ys[i]? = some y → Al6 H n x y
theorem Al6.same {H H' : Hp} (e : Same H H') : ∀ (n : Nat) (x y : V), Al6 H n x y → Al6 H' n x y
  | 0, _, _, h => h
  | n + 1, x, y, h => by
    rcases h with h | ⟨a, b, xs, ys, e1, e2, h, hl, hl2, k⟩
    · exact .inl h
    · refine .inr ⟨a, b, xs, ys, e1, e2, ?_, hl, hl2, fun i x y h1 h2 => Al6.same e n x y (k i x y h1 h2)⟩
      rcases h with ⟨h1, h2⟩ | ⟨h1, h2⟩
      · exact .inl ⟨e _ _ h1, e _ _ h2⟩
      · exact .inr ⟨e _ _ h1, e _ _ h2⟩
def spAlk6 (n : Nat) : Sp := fun vs H Q _ => ∃ x y : V, vs = [x, y] ∧ Al6 H n x y ∧ ∀ H', Same H H' → Q (.bl true) H'
section
variable {P : Program} {w : World} {K : PySem.W.Frag} {mg : Str → Option Value} {base : Heap}
theorem ok_alk0 {f : Addr} {fd : FuncData} {k : Nat} (F : Fun K "_law_alike" "_law_alike" s_scAlk f fd) (T : Txt mg) : FnOk P w K mg base CX0 (k + 1) f fd ["_law_found", "_law_due_here"] (spAlk6 0) := by
  refine F.ok scAlk (fun vs H Q E h => ?_) (fun cdv A outer s H vs Q E hr h => ?_)
  · obtain ⟨x, y, rfl, _⟩ := h
    rfl
  · obtain ⟨x, y, rfl, h, q⟩ := h
    refine ⟨_, (pss_cons (ps_if (pt_cmpR op_isN (pv 1) pe_non (nomark _))
        (pss_one (ps_ret (pe_cmpR op_isN (pv 0) pe_non (nomark _))))
        pss_nil)
      (pss_cons (ps_if (pt_val (pe_isT T (by rfl) (by rfl) (by rfl) (pv 1)))
        (pss_cons ps_never (pss_one ps_never))
        pss_nil)
      (pss_cons (ps_if (pt_val (pe_isi T (by rfl) (by rfl) T.str bt_str (pv 1)))
        (pss_one (ps_ret (pe_and (pe_isi T (by rfl) (by rfl) T.str bt_str (pv 0)) (pe_one (pe_cmpR op_eq (pv 0) (pv 1) (nomark _))))))
        pss_nil)
      (pss_one (ps_ret (pe_and (pe_isi T (by rfl) (by rfl) T.int bt_int (pv 0)) (pe_and (pe_not (pe_isi T (by rfl) (by rfl) T.bool bt_bool (pv 0))) (pe_one (pe_cmpR op_eq (pv 0) (pv 1) (nomark _)))))))))), ?_⟩
    rcases h with ⟨b, rfl, rfl⟩ | ⟨b, rfl, rfl⟩ | ⟨rfl, rfl⟩
    · have tx : ∀ H, TyX K H (.int b) (.type "int") := fun H => .base (.int b)
      refine ⟨_, rfl, rfl, false, rfl, iteF ?_⟩
      refine ⟨_, rfl, (by show 2 ≤ sizeLine; decide), fun tp ntp => ⟨_, tp, _, _, _, _, rfl, upd_same, pairT, tx _, kany kB1 kB2, false, rfl, iteF ?_⟩⟩
      refine ⟨_, rfl, _, _, _, _, _, rfl, .ty _, tx _, kit_ty (r := false) (by decide +kernel), false, rfl, iteF ?_⟩
      refine ⟨_, rfl, _, _, _, _, _, rfl, .ty _, tx _, kit_ty (r := true) (by decide +kernel), true, rfl, iteT ?_⟩
      refine ⟨_, rfl, _, _, _, _, _, rfl, .ty _, tx _, kit_ty (r := false) (by decide +kernel), false, rfl, true, rfl, iteT ?_⟩
      refine ⟨_, rfl, _, rfl, rfl, ?_⟩
      rw [decide_eq_true rfl]
      exact q _ (same_upd ntp)
    · have tx : ∀ H, TyX K H (.str b) (.type "str") := fun H => .base (.str b)
      refine ⟨_, rfl, rfl, false, rfl, iteF ?_⟩
      refine ⟨_, rfl, (by show 2 ≤ sizeLine; decide), fun tp ntp => ⟨_, tp, _, _, _, _, rfl, upd_same, pairT, tx _, kany kB5 kB6, false, rfl, iteF ?_⟩⟩
      refine ⟨_, rfl, _, _, _, _, _, rfl, .ty _, tx _, kit_ty (r := true) (by decide +kernel), true, rfl, iteT ?_⟩
      refine ⟨_, rfl, _, _, _, _, _, rfl, .ty _, tx _, kit_ty (r := true) (by decide +kernel), true, rfl, iteT ?_⟩
      refine ⟨_, rfl, _, rfl, rfl, ?_⟩
      rw [decide_eq_true rfl]
      exact q _ (same_upd ntp)
    · refine ⟨_, rfl, rfl, true, rfl, iteT ?_⟩
      refine ⟨_, rfl, rfl, ?_⟩
      exact q _ (Same.refl _)
theorem ok_alkS {f : Addr} {fd : FuncData} {n : Nat} (F : Fun K "_law_alike" "_law_alike" s_scAlk f fd) (T : Txt mg) (mA : mg "_law_alike" = some (.ref f)) (kA : PySem.W.keepIn K (.ref f) = true) (bA : L2.Binds K fd ["_law_found", "_law_due_here"] [])
    (GA : FnOk P w K mg base CX0 (n + 1) f fd ["_law_found", "_law_due_here"] (spAlk6 n)) : FnOk P w K mg base CX0 (n + 1 + 1) f fd ["_law_found", "_law_due_here"] (spAlk6 (n + 1)) := by
  refine F.ok scAlk (fun vs H Q E h => ?_) (fun cdv A outer s H vs Q E hr h => ?_)
  · obtain ⟨x, y, rfl, _⟩ := h
    rfl
  · obtain ⟨x, y, rfl, h, q⟩ := h
    refine ⟨_, (pss_cons (ps_if (pt_cmpR op_isN (pv 1) pe_non (nomark _))
        (pss_one (ps_ret (pe_cmpR op_isN (pv 0) pe_non (nomark _))))
        pss_nil)
      (pss_cons (ps_if (pt_val (pe_isT T (by rfl) (by rfl) (by rfl) (pv 1)))
        (pss_cons (ps_if (PW.pt (pw_or (pt_not (pt_val (pe_isT T (by rfl) (by rfl) (by rfl) (pv 0)))) (pw_or1 (pt_cmpR op_ne (pe_isi T (by rfl) (by rfl) T.lst bt_list (pv 0)) (pe_isi T (by rfl) (by rfl) T.lst bt_list (pv 1)) (nomark _)))))
          (pss_one (ps_ret pe_bl))
          pss_nil)
        (pss_one (ps_ret (pe_and (pe_cmpR op_eq (pe_callB call_len_seq (by rfl) T.len PySem.boot_len (pa_cons (pv 0) pa_nil)) (pe_callB call_len_seq (by rfl) T.len PySem.boot_len (pa_cons (pv 1) pa_nil)) (nomark _)) (pe_one (pe_callB (cr_all rfl) (by rfl) T.all (by decide +kernel) (pa_cons (pe_lc (own := [("_law_one", 2), ("_law_other", 3)]) (g := (gTup K 2 (gCons (gName 2) (gCons (gName 3) gNil)))) (tt := tYes) rfl scAlk.nd (RZ.pi_zipA (by rfl) T.zip (pa_cons (pv 0) (pa_cons (pv 1) pa_nil))) (blkOk_by (own := [("_law_one", 2), ("_law_other", 3)]) (N := n_scAlk) (sc := defScope s_scAlk) (by decide +kernel)) (fun _ _ _ _ _ => (pg_tup rfl (pgs_cons (pg_name (i := 2) scAlk.nd rfl (.inl rfl)) (pgs_cons (pg_name (i := 3) scAlk.nd rfl (.inl rfl)) pgs_nil)))) (fun _ _ _ _ _ => pts_nil) (fun _ _ _ _ _ => (pe_call GA hr (by rfl) mA kA bA .nil pass0 (pa_cons (pv 2) (pa_cons (pv 3) pa_nil))))) pa_nil)))))))
        pss_nil)
      (pss_cons (ps_if (pt_val (pe_isi T (by rfl) (by rfl) T.str bt_str (pv 1)))
        (pss_one (ps_ret (pe_and (pe_isi T (by rfl) (by rfl) T.str bt_str (pv 0)) (pe_one (pe_cmpR op_eq (pv 0) (pv 1) (nomark _))))))
        pss_nil)
      (pss_one (ps_ret (pe_and (pe_isi T (by rfl) (by rfl) T.int bt_int (pv 0)) (pe_and (pe_not (pe_isi T (by rfl) (by rfl) T.bool bt_bool (pv 0))) (pe_one (pe_cmpR op_eq (pv 0) (pv 1) (nomark _)))))))))), ?_⟩
    rcases h with h | ⟨a, b, xs, ys, rfl, rfl, h, hl, hl2, hk⟩
    · rcases h with ⟨b, rfl, rfl⟩ | ⟨b, rfl, rfl⟩ | ⟨rfl, rfl⟩
      · have tx : ∀ H, TyX K H (.int b) (.type "int") := fun H => .base (.int b)
        refine ⟨_, rfl, rfl, false, rfl, iteF ?_⟩
        refine ⟨_, rfl, (by show 2 ≤ sizeLine; decide), fun tp ntp => ⟨_, tp, _, _, _, _, rfl, upd_same, pairT, tx _, kany kB1 kB2, false, rfl, iteF ?_⟩⟩
        refine ⟨_, rfl, _, _, _, _, _, rfl, .ty _, tx _, kit_ty (r := false) (by decide +kernel), false, rfl, iteF ?_⟩
        refine ⟨_, rfl, _, _, _, _, _, rfl, .ty _, tx _, kit_ty (r := true) (by decide +kernel), true, rfl, iteT ?_⟩
        refine ⟨_, rfl, _, _, _, _, _, rfl, .ty _, tx _, kit_ty (r := false) (by decide +kernel), false, rfl, true, rfl, iteT ?_⟩
        refine ⟨_, rfl, _, rfl, rfl, ?_⟩
        rw [decide_eq_true rfl]
        exact q _ (same_upd ntp)
      · have tx : ∀ H, TyX K H (.str b) (.type "str") := fun H => .base (.str b)
        refine ⟨_, rfl, rfl, false, rfl, iteF ?_⟩
        refine ⟨_, rfl, (by show 2 ≤ sizeLine; decide), fun tp ntp => ⟨_, tp, _, _, _, _, rfl, upd_same, pairT, tx _, kany kB5 kB6, false, rfl, iteF ?_⟩⟩
        refine ⟨_, rfl, _, _, _, _, _, rfl, .ty _, tx _, kit_ty (r := true) (by decide +kernel), true, rfl, iteT ?_⟩
        refine ⟨_, rfl, _, _, _, _, _, rfl, .ty _, tx _, kit_ty (r := true) (by decide +kernel), true, rfl, iteT ?_⟩
        refine ⟨_, rfl, _, rfl, rfl, ?_⟩
        rw [decide_eq_true rfl]
        exact q _ (same_upd ntp)
      · refine ⟨_, rfl, rfl, true, rfl, iteT ?_⟩
        refine ⟨_, rfl, rfl, ?_⟩
        exact q _ (Same.refl _)
    rcases h with ⟨h1, h2⟩ | ⟨h1, h2⟩
    · have sq : ∀ {H' : Hp} {p : Addr} {zs : List V}, H' p = some (.lst zs) → SqL K H' p zs := fun h => SqL.of h
      have ta : ∀ {H' : Hp}, Same H H' → TyX K H' (.ref a) (.type "list") := fun e => .base (.lst (e _ _ h1))
      have tb : ∀ {H' : Hp}, Same H H' → TyX K H' (.ref b) (.type "list") := fun e => .base (.lst (e _ _ h2))
      refine ⟨_, rfl, rfl, false, rfl, iteF ?_⟩
      refine ⟨_, rfl, (by show 2 ≤ sizeLine; decide), fun tp ntp => ⟨_, tp, _, _, _, _, rfl, upd_same, pairT, tb (same_upd ntp), kany kB9 kB10, true, rfl, iteT ?_⟩⟩
      have s1 : Same H (upd H tp (.tup [V.ty "list", V.ty "tuple"])) := same_upd ntp
      refine ⟨_, rfl, (by show 2 ≤ sizeLine; decide), fun tp2 ntp2 => ⟨_, tp2, _, _, _, _, rfl, upd_same, pairT, ta (s1.trans (same_upd ntp2)), kany kB9 kB10, true, rfl, iteF ?_⟩⟩
      have s2 := s1.trans (same_upd (o := .tup [V.ty "list", V.ty "tuple"]) ntp2)
      refine ⟨_, rfl, _, _, _, _, _, rfl, .ty _, ta s2, kit_ty (r := true) (by decide +kernel), _, rfl, _, _, _, _, _, rfl, .ty _, tb s2, kit_ty (r := true) (by decide +kernel), rfl, false, rfl, iteF ?_⟩
      refine ⟨_, rfl, a, xs, rfl, .inl (sq (s2 _ _ h1)), _, rfl, b, ys, rfl, .inl (sq (s2 _ _ h2)), rfl, true, congrArg V.bl (decide_eq_true (by rw [hl])), iteT ?_⟩
      refine ⟨_, rfl, _, rfl, a, b, xs, ys, rfl, .inl ⟨sq (s2 _ _ h1), sq (s2 _ _ h2), fun D nD => lc_it (walk_zip (xs := xs) (ys := ys) rfl) (fun i H' => Same H H' ∧ H' D = some (.lst ((List.replicate i true).map V.bl))) ⟨s2.trans (same_upd nD), upd_same⟩ (fun i H' _ p => ⟨sq (p.1 _ _ h1), sq (p.1 _ _ h2)⟩) (fun i v H3 H4 hi p y => ?_) (fun H3 p => ?_)⟩⟩
      · obtain ⟨T1, x1, x2, rfl, nT, rfl, g1, g2⟩ := y
        obtain ⟨p1, p2⟩ := p
        have s3 : Same H3 (upd H3 T1 (.tup [x1, x2])) := same_upd nT
        have hx := hk i x1 x2 g1 g2
        refine ⟨T1, [x1, x2], rfl, SqT.of upd_same, rfl, x1, [x2], rfl, x2, [], rfl, rfl, rfl, ?_⟩
        refine ⟨x1, rfl, x2, rfl, x1, x2, rfl, Al6.same (p1.trans s3) n x1 x2 hx, fun H5 s5 => ⟨_, s5 _ _ (s3 _ _ p2), ?_, ?_, ?_⟩⟩
        · rw [List.length_map, List.length_replicate]
          have hlt : i < 100000 := by
            have := hi
            omega
          exact Nat.lt_of_lt_of_le hlt (by decide)
        · intro z o e
          have nz : z ≠ D := ne_of_none e (s2.free nD)
          rw [upd_ne nz]
          exact s5 _ _ (s3 _ _ (p1 _ _ e))
        · rw [upd_same, List.replicate_succ', List.map_append]
          rfl
      · obtain ⟨p1, p2⟩ := p
        refine ⟨D, _, rfl, SqL.of p2, ?_⟩
        rw [show ((List.replicate (min xs.length ys.length) true).all id) = true by simp]
        exact q _ p1
    · have sq : ∀ {H' : Hp} {p : Addr} {zs : List V}, H' p = some (.tup zs) → SqT K H' p zs := fun h => SqT.of h
      have ta : ∀ {H' : Hp}, Same H H' → TyX K H' (.ref a) (.type "tuple") := fun e => .base (.tup (e _ _ h1))
      have tb : ∀ {H' : Hp}, Same H H' → TyX K H' (.ref b) (.type "tuple") := fun e => .base (.tup (e _ _ h2))
      refine ⟨_, rfl, rfl, false, rfl, iteF ?_⟩
      refine ⟨_, rfl, (by show 2 ≤ sizeLine; decide), fun tp ntp => ⟨_, tp, _, _, _, _, rfl, upd_same, pairT, tb (same_upd ntp), kany kB11 kB12, true, rfl, iteT ?_⟩⟩
      have s1 : Same H (upd H tp (.tup [V.ty "list", V.ty "tuple"])) := same_upd ntp
      refine ⟨_, rfl, (by show 2 ≤ sizeLine; decide), fun tp2 ntp2 => ⟨_, tp2, _, _, _, _, rfl, upd_same, pairT, ta (s1.trans (same_upd ntp2)), kany kB11 kB12, true, rfl, iteF ?_⟩⟩
      have s2 := s1.trans (same_upd (o := .tup [V.ty "list", V.ty "tuple"]) ntp2)
      refine ⟨_, rfl, _, _, _, _, _, rfl, .ty _, ta s2, kit_ty (r := false) (by decide +kernel), _, rfl, _, _, _, _, _, rfl, .ty _, tb s2, kit_ty (r := false) (by decide +kernel), rfl, false, rfl, iteF ?_⟩
      refine ⟨_, rfl, a, xs, rfl, .inr (sq (s2 _ _ h1)), _, rfl, b, ys, rfl, .inr (sq (s2 _ _ h2)), rfl, true, congrArg V.bl (decide_eq_true (by rw [hl])), iteT ?_⟩
      refine ⟨_, rfl, _, rfl, a, b, xs, ys, rfl, .inr ⟨sq (s2 _ _ h1), sq (s2 _ _ h2), fun D nD => lc_it (walk_zipT (xs := xs) (ys := ys) rfl) (fun i H' => Same H H' ∧ H' D = some (.lst ((List.replicate i true).map V.bl))) ⟨s2.trans (same_upd nD), upd_same⟩ (fun i H' _ p => ⟨sq (p.1 _ _ h1), sq (p.1 _ _ h2)⟩) (fun i v H3 H4 hi p y => ?_) (fun H3 p => ?_)⟩⟩
      · obtain ⟨T1, x1, x2, rfl, nT, rfl, g1, g2⟩ := y
        obtain ⟨p1, p2⟩ := p
        have s3 : Same H3 (upd H3 T1 (.tup [x1, x2])) := same_upd nT
        have hx := hk i x1 x2 g1 g2
        refine ⟨T1, [x1, x2], rfl, SqT.of upd_same, rfl, x1, [x2], rfl, x2, [], rfl, rfl, rfl, ?_⟩
        refine ⟨x1, rfl, x2, rfl, x1, x2, rfl, Al6.same (p1.trans s3) n x1 x2 hx, fun H5 s5 => ⟨_, s5 _ _ (s3 _ _ p2), ?_, ?_, ?_⟩⟩
        · rw [List.length_map, List.length_replicate]
          have hlt : i < 100000 := by
            have := hi
            omega
          exact Nat.lt_of_lt_of_le hlt (by decide)
        · intro z o e
          have nz : z ≠ D := ne_of_none e (s2.free nD)
          rw [upd_ne nz]
          exact s5 _ _ (s3 _ _ (p1 _ _ e))
        · rw [upd_same, List.replicate_succ', List.map_append]
          rfl
      · obtain ⟨p1, p2⟩ := p
        refine ⟨D, _, rfl, SqL.of p2, ?_⟩
        rw [show ((List.replicate (min xs.length ys.length) true).all id) = true by simp]
        exact q _ p1
end
end My

namespace My
open PySem PySem.Spec PyProof.Rows L2 GX GxR
abbrev s_scKSt : Stmt := topS 49
abbrev n_scKSt : List Str := ["_law_book", "_law_m"]
theorem scKSt : FnScope n_scKSt ["_law_book", "_law_m"] (defScope s_scKSt) := ⟨rfl, rfl, rfl, by decide +kernel, rfl, by decide +kernel, by decide +kernel⟩
theorem al6_ints {H : Hp} {n : Nat} {p q : Addr} {ns : List Int} (h1 : H p = some (.tup (ns.map V.int))) (h2 : H q = some (.tup (ns.map V.int))) (hs : ns.length < 100000) : Al6 H (n + 1) (.ref p) (.ref q) := by
  refine .inr ⟨p, q, _, _, rfl, rfl, .inr ⟨h1, h2⟩, rfl, by rw [List.length_map]; exact hs, fun i x y a b => ?_⟩
  rw [a] at b
  cases b
  obtain ⟨z, _, rfl⟩ := get_int a
  cases n with
  | zero => exact .inl ⟨z, rfl, rfl⟩
  | succ n => exact .inl (.inl ⟨z, rfl, rfl⟩)
theorem al6_bw {H : Hp} {r r' : Addr} {x : Bw} (h : BwAt H r x) (h' : BwAt H r' x) (hs : x.am.length < 100000) : Al6 H 2 (.ref r) (.ref r') := by
  obtain ⟨p, h1, h2⟩ := h
  obtain ⟨p', h3, h4⟩ := h'
  refine .inr ⟨r, r', _, _, rfl, rfl, .inr ⟨h1, h3⟩, rfl, by show 4 < 100000; decide, fun i u v a b => ?_⟩
  match i, a, b with
  | 0, a, b =>
    cases a
    cases b
    exact .inl (.inr (.inl ⟨_, rfl, rfl⟩))
  | 1, a, b =>
    cases a
    cases b
    exact .inl (.inl ⟨_, rfl, rfl⟩)
  | 2, a, b =>
    cases a
    cases b
    exact .inl (.inl ⟨_, rfl, rfl⟩)
  | 3, a, b =>
    cases a
    cases b
    exact al6_ints h2 h4 hs
  | j + 4, a, b => simp at a
theorem al6_bws {H : Hp} {p q : Addr} {as bs : List Addr} {ss : List Bw} (h1 : H p = some (.lst (as.map V.ref))) (h2 : H q = some (.lst (bs.map V.ref))) (pa : Paired (BwAt H) as ss) (pb : Paired (BwAt H) bs ss) (hs : ss.length < 100000) (ha : ∀ x ∈ ss, x.am.length < 100000) : Al6 H 3 (.ref p) (.ref q) := by
  have la := pa.length
  have lb := pb.length
  refine .inr ⟨p, q, _, _, rfl, rfl, .inl ⟨h1, h2⟩, by rw [List.length_map, List.length_map]; omega, by rw [List.length_map]; omega, fun i u v a b => ?_⟩
  obtain ⟨r, hr, rfl⟩ := map_get a
  obtain ⟨r', hr', rfl⟩ := map_get b
  obtain ⟨x, hx, bx⟩ := paired_get pa hr
  obtain ⟨y, hy, by'⟩ := paired_get pb hr'
  rw [hx] at hy
  cases hy
  exact al6_bw bx by' (ha x (List.mem_of_getElem? hx))
def spStands (C : Addr) : Sp := fun vs H Q _ => ∃ (a dx m d : Addr) (lv : V) (ps : List (Key × V)) (rs : List Bw) (mm pr rd : Addr) (ns : List Int) (top wide : Int) (rows : List (Str × V)) (es : List Ent), vs = [.ref a, .ref mm] ∧ BookAt H C a dx m d lv ps ns rs ∧ MAt H mm pr rd ns top wide rows ∧ Ents H rows es ∧ (es.map bwOf).Perm rs ∧ ∀ H', Same H H' → Q (.bl true) H'
section
variable {P : Program} {w : World} {K : PySem.W.Frag} {mg : Str → Option Value} {base : Heap} {C : Addr}
theorem ok_kst {f fE fW fR fA : Addr} {fd fdE fdW fdR fdA : FuncData} {k : Nat} (F : Fun K "_law_stands" "_law_stands" s_scKSt f fd) (c : BCls K C)
    (GE : FnOk P w K mg base CX0 k fE fdE ["self"] (spERows K C)) (ME : Meth K C "entry_rows" fE) (bE : L2.Binds K fdE ["self"] [])
    (GW : FnOk P w K mg base CX0 k fW fdW ["self"] (spWRoom C)) (MW : Meth K C "whole_room" fW) (bW : L2.Binds K fdW ["self"] [])
    (GR : FnOk P w K mg base CX0 k fR fdR ["_law_m"] spKRows) (mR : mg "_law_rows_due" = some (.ref fR)) (kR : PySem.W.keepIn K (.ref fR) = true) (bR : L2.Binds K fdR ["_law_m"] [])
    (GA : FnOk P w K mg base CX0 k fA fdA ["_law_found", "_law_due_here"] (spAlk6 3)) (mA : mg "_law_alike" = some (.ref fA)) (kA : PySem.W.keepIn K (.ref fA) = true) (bA : L2.Binds K fdA ["_law_found", "_law_due_here"] []) :
    FnOk P w K mg base CX0 (k + 1) f fd ["_law_book", "_law_m"] (spStands C) := by
  have cB := c.cls
  refine F.ok scKSt (fun vs H Q E h => ?_) (fun cdv A outer s H vs Q E hr h => ?_)
  · obtain ⟨a, dx, m, d, lv, ps, rs, mm, pr, rd, ns, top, wide, rows, es, rfl, _⟩ := h
    rfl
  · obtain ⟨a, dx, m, d, lv, ps, rs, mm, pr, rd, ns, top, wide, rows, es, rfl, B, M, hE, pm, q⟩ := h
    have few := B.few
    have le : es.length = rs.length := by rw [← pm.length_eq, List.length_map]
    have nd : (es.map (·.key)).Nodup := by
      have := (pm.map (·.key)).nodup_iff.mpr B.nd
      rw [List.map_map] at this
      exact this
    refine ⟨_, (pss_one (ps_ret (pe_and (pe_call GA hr (by rfl) mA kA bA .nil pass0 (pa_cons (pe_meth0 (pv 0) cB ME GE hr bE .nil pass0) (pa_cons (pe_call GR hr (by rfl) mR kR bR .nil pass0 (pa_cons (pv 1) pa_nil)) pa_nil))) (pe_one (pe_call GA hr (by rfl) mA kA bA .nil pass0 (pa_cons (pe_meth0 (pv 0) cB MW GW hr bW .nil pass0) (pa_cons (pe_dget (hu_of hr) (pv 1) pe_str (fun _ _ => rfl)) pa_nil))))))), ?_⟩
    refine ⟨_, rfl, a, dx, _, rfl, B.obj, rfl, a, dx, m, d, lv, ps, ns, rs, rfl, B, fun p H1 as ss s1 np ep prs ik => ?_⟩
    refine ⟨_, rfl, mm, pr, rd, ns, top, wide, rows, es, rfl, M.same s1, Ents.imp (fun v r h => h.same s1) hE, by omega, nd, fun p2 H2 bs ss2 s2 np2 ep2 prs2 ik2 => ?_⟩
    have e := inkeys_uniq B.nd pm ik ik2
    subst e
    have s02 := s1.trans s2
    refine ⟨_, _, rfl, al6_bws (s2 _ _ ep) ep2 (prs.mono fun _ _ x => BwAt.kt (Same.kt s2) x) prs2 (by rw [ik.1.length_eq]; omega) (fun x hx => by rw [B.ok.len x (ik.1.mem_iff.mp hx)]; have := B.r20; omega), fun H3 s3 => ⟨true, rfl, iteT ?_⟩⟩
    have s03 := s02.trans s3
    have B3 := B.same s03
    have M3 := M.same s03
    refine ⟨_, rfl, a, dx, _, rfl, B3.obj, rfl, a, dx, m, d, lv, rfl, B3.obj, ?_⟩
    refine ⟨_, rfl, mm, .ref pr, rfl, DGet.k (k := .inr "room") M3.dict, ?_⟩
    exact ⟨_, _, rfl, al6_ints B3.rm M3.room (by have := B.r20; omega), fun H4 s4 => q H4 (s03.trans s4)⟩
end
end My

namespace My
open PySem PySem.Spec PyProof.Rows L2 GX GxR XI
abbrev s_scKGoes : Stmt := topS 50
abbrev n_scKGoes : List Str := ["_law_book", "_law_m", "_law_deed_here"]
theorem scKGoes : FnScope n_scKGoes ["_law_book", "_law_m", "_law_deed_here"] (defScope s_scKGoes) := ⟨rfl, rfl, rfl, by decide +kernel, rfl, by decide +kernel, by decide +kernel⟩
section
variable {H H' : Hp} {Ts : List Addr} {C a dx m d : Addr} {Z : List Str} {room : List Int} {rs : List Bw}
/-- what is changed elsewhere leaves a book as it is -/
theorem Bk.kp {S : List Addr} (b : Bk H Ts C a dx m d Z room rs) (k : Kp S H H') (off : ∀ x o, x ∈ S → H x = some o → (∃ ps, o = .dK ps ∧ x ≠ d) ∨ ∃ xs, o = .lst xs ∧ Box2 xs) : Bk H' Ts C a dx m d Z room rs := by
  obtain ⟨⟨lv, ps, B, L⟩, h3, h4, h5, h6⟩ := b
  have kt : KTu H H' := fun x xs e => k _ _ (fun z => by
    rcases off x _ z e with ⟨_, w, _⟩ | ⟨_, w, _⟩ <;> cases w) e
  refine ⟨⟨lv, ps, ⟨k _ _ (fun z => ?_) B.obj, kt _ _ B.rm, k _ _ (fun z => ?_) B.en, B.prs.mono fun _ _ x => x.kt kt, B.nd, B.few, B.ok, B.r1, B.r20⟩, ?_⟩, h3, fun T hT => ?_, h5, h6⟩
  · rcases off _ _ z B.obj with ⟨_, w, _⟩ | ⟨_, w, _⟩ <;> cases w
  · rcases off _ _ z B.en with ⟨_, _, w⟩ | ⟨_, w, _⟩
    · exact w rfl
    · cases w
  · rcases L with h | ⟨l, ls, ks, e, h1, h2, h3⟩
    · exact .inl h
    · refine .inr ⟨l, ls, ks, e, k _ _ (fun z => ?_) h1, h2, h3.mono fun _ _ x => x.kt kt⟩
      rcases off _ _ z h1 with ⟨_, w, _⟩ | ⟨xs, w, x1, x2, w2, _⟩
      · cases w
      · have e := HO.lst.inj w
        rw [w2] at e
        cases ls with
        | nil => cases e
        | cons x ls => cases e
  · obtain ⟨ps', t1, t2⟩ := h4 T hT
    refine ⟨ps', k _ _ (fun z => ?_) t1, t2⟩
    rcases off _ _ z t1 with ⟨_, w, _⟩ | ⟨_, w, _⟩ <;> cases w
theorem Bk.kt (b : Bk H Ts C a dx m d Z room rs) (k : Kp (a :: d :: Ts) H H') : KTu H H' := fun x xs e => k _ _ (fun z => by
  obtain ⟨lv, ps, B, L⟩ := b.at_
  rcases List.mem_cons.mp z with z | z
  · rw [z, B.obj] at e; cases e
  · rcases List.mem_cons.mp z with z | z
    · rw [z, B.en] at e; cases e
    · obtain ⟨ps', h1, _⟩ := b.tabs x z
      rw [e] at h1; cases h1) e
end
theorem Bk.lst {H : Hp} {Ts : List Addr} {C a dx m d : Addr} {Z : List Str} {room : List Int} {rs : List Bw} (b : Bk H Ts C a dx m d Z room rs) {x : Addr} {xs : List V} (g : Box2 xs) (e : H x = some (.lst xs)) : x ∉ a :: d :: Ts := fun z => by
  obtain ⟨lv, ps, B, L⟩ := b.at_
  rcases List.mem_cons.mp z with z | z
  · rw [z, B.obj] at e; cases e
  · rcases List.mem_cons.mp z with z | z
    · rw [z, B.en] at e; cases e
    · obtain ⟨ps', h1, _⟩ := b.tabs x z
      rw [e] at h1; cases h1
/-- a book and the law's own keeping: the same entries -/
structure Both (H : Hp) (Ts : List Addr) (C a dx m d mm pr rd : Addr) (Z : List Str) (room : List Int) (top wide : Int) (rs : List Bw) : Prop where
  bk : Bk H Ts C a dx m d Z room rs
  kp : ∃ rows es, MAt H mm pr rd room top wide rows ∧ Ents H rows es ∧ es.map bwOf = rs
  ne : d ≠ rd ∧ d ≠ mm
section
variable {H H' : Hp} {Ts : List Addr} {C a dx m d mm pr rd : Addr} {Z : List Str} {room : List Int} {top wide : Int} {rs : List Bw}
theorem Both.same (s : Same H H') (b : Both H Ts C a dx m d mm pr rd Z room top wide rs) : Both H' Ts C a dx m d mm pr rd Z room top wide rs := by
  obtain ⟨h1, ⟨rows, es, M, E, e⟩, h3⟩ := b
  exact ⟨h1.same s, ⟨rows, es, M.same s, E.imp fun v r h => h.same s, e⟩, h3⟩
theorem Both.box {b : Addr} (B : Bt H b) (k : Kp [b] H H') (x : Both H Ts C a dx m d mm pr rd Z room top wide rs) : Both H' Ts C a dx m d mm pr rd Z room top wide rs := by
  obtain ⟨h1, ⟨rows, es, M, E, e⟩, h3⟩ := x
  refine ⟨h1.kp k fun y o hy ho => ?_, ⟨rows, es, M.kp B k, E.imp fun v r h => h.kp B k, e⟩, h3⟩
  obtain ⟨xs, g1, g2⟩ := B
  rw [List.mem_singleton.mp hy, g1] at ho
  exact .inr ⟨xs, (Option.some.inj ho).symm, g2⟩
/-- what the book does leaves the keeping as it is -/
theorem MAt.bk {rows : List (Str × V)} (b : Bk H Ts C a dx m d Z room rs) (ne : d ≠ rd ∧ d ≠ mm) (k : Kp (a :: d :: Ts) H H') (M : MAt H mm pr rd room top wide rows) : MAt H' mm pr rd room top wide rows := by
  have off : ∀ {x : Addr} {ps : List (Key × V)}, H x = some (.dK ps) → d ≠ x → x ∉ a :: d :: Ts := fun {x ps} e n z => by
    obtain ⟨lv, ps, B, L⟩ := b.at_
    rcases List.mem_cons.mp z with z | z
    · rw [z, B.obj] at e; cases e
    · rcases List.mem_cons.mp z with z | z
      · exact n z.symm
      · obtain ⟨ps', h1, _⟩ := b.tabs x z
        rw [e] at h1; cases h1
  exact ⟨k _ _ (off M.dict ne.2) M.dict, b.kt k _ _ M.room, k _ _ (off M.rows ne.1) M.rows, M.len1, M.len8, M.top0, M.top1, M.wid0, M.wid1, M.num, M.ne⟩
theorem al6_out {t1 t2 : Addr} {w : Str} {o : Out} (h1 : OutAt H t1 w o) (h2 : OutAt H t2 w o) (hl : ∀ zs, o = .keys zs → zs.length < 100000) : Al6 H 3 (.ref t1) (.ref t2) := by
  cases o with
  | no =>
    refine .inr ⟨t1, t2, _, _, rfl, rfl, .inr ⟨h1, h2⟩, rfl, by show 2 < 100000; decide, fun i x y g1 g2 => ?_⟩
    rcases i with _ | _ | i
    · cases g1; cases g2
      exact .inl (.inr (.inl ⟨_, rfl, rfl⟩))
    · cases g1; cases g2
      exact .inl (.inr (.inr ⟨rfl, rfl⟩))
    · cases g1
  | time t =>
    refine .inr ⟨t1, t2, _, _, rfl, rfl, .inr ⟨h1, h2⟩, rfl, by show 2 < 100000; decide, fun i x y g1 g2 => ?_⟩
    rcases i with _ | _ | i
    · cases g1; cases g2
      exact .inl (.inr (.inl ⟨_, rfl, rfl⟩))
    · cases g1; cases g2
      exact .inl (.inl ⟨_, rfl, rfl⟩)
    · cases g1
  | keys zs =>
    obtain ⟨l1, a1, b1⟩ := h1
    obtain ⟨l2, a2, b2⟩ := h2
    refine .inr ⟨t1, t2, _, _, rfl, rfl, .inr ⟨a1, a2⟩, rfl, by show 2 < 100000; decide, fun i x y g1 g2 => ?_⟩
    rcases i with _ | _ | i
    · cases g1; cases g2
      exact .inl (.inr (.inl ⟨_, rfl, rfl⟩))
    · cases g1; cases g2
      refine .inr ⟨l1, l2, _, _, rfl, rfl, .inl ⟨b1, b2⟩, rfl, by rw [List.length_map]; exact hl zs rfl, fun j u v e1 e2 => ?_⟩
      rw [e1] at e2
      cases e2
      obtain ⟨z, _, rfl⟩ := map_get e1
      exact .inl (.inr (.inl ⟨z, rfl, rfl⟩))
    · cases g1
theorem OutAt.kp {S : List Addr} {t : Addr} {w : Str} {o : Out} (k : Kp S H H') (off : ∀ x o, x ∈ S → H x = some o → ∃ ps, o = .dK ps) (h : OutAt H t w o) : OutAt H' t w o := by
  have go : ∀ {x : Addr} {u : HO}, H x = some u → (∀ ps, u ≠ .dK ps) → H' x = some u := fun {x u} e n => k _ _ (fun z => by
    obtain ⟨ps, w⟩ := off x _ z e
    exact n ps w) e
  cases o with
  | no => exact go h fun _ z => by cases z
  | time x => exact go h fun _ z => by cases z
  | keys zs =>
    obtain ⟨l, h1, h2⟩ := h
    exact ⟨l, go h1 (fun _ z => by cases z), go h2 (fun _ z => by cases z)⟩
end
def spGoes (Ts : List Addr) (C : Addr) : Sp := fun vs H Q _ => ∃ (a dx m d mm pr rd pd : Addr) (Z : List Str) (room : List Int) (top wide : Int) (rs : List Bw) (dd : Deed), vs = [.ref a, .ref mm, .ref pd] ∧ Both H Ts C a dx m d mm pr rd Z room top wide rs ∧ rs.length < 109 ∧ DeedAt H pd dd ∧ DeedOk Z room dd ∧
  ∀ w o rs' H', DueR room rs dd w o rs' → Kp (rd :: a :: d :: Ts) H H' → Both H' Ts C a dx m d mm pr rd Z room top wide rs' → Q (.bl true) H'
def spFilled (Ts : List Addr) (C : Addr) : Sp := fun vs H Q _ => ∃ (a dx m d mm pr rd b : Addr) (Z : List Str) (room : List Int) (top wide : Int) (rs : List Bw) (turns many : Nat), vs = [.ref a, .ref mm, .ref b, .int (turns : Int), .int (many : Int)] ∧ Both H Ts C a dx m d mm pr rd Z room top wide rs ∧ Bt H b ∧ rs.length + turns < 110 ∧ 0 < many ∧ many ≤ 104 ∧ (∀ z ∈ namesN many, z ∈ Z) ∧
  ∀ rs' H', Kp (b :: rd :: a :: d :: Ts) H H' → Both H' Ts C a dx m d mm pr rd Z room top wide rs' → Bt H' b → rs'.length ≤ rs.length + turns → (∀ x ∈ rs', x.key ∈ keysB rs ∨ x.key ∈ namesN many) → Q (.bl true) H'
theorem dueR_len {room : List Int} {rs rs' : List Bw} {dd : Deed} {w : Str} {o : Out} (h : DueR room rs dd w o rs') : rs'.length ≤ rs.length + 1 := by
  have kr : ∀ {x : Bw} {f : Option Int}, KeptR rs x f w o rs' → rs'.length ≤ rs.length + 1 := fun {x f} k => by
    cases f with
    | some t => rw [k.2.2]; omega
    | none => rw [k.2.2]; exact putR_few
  cases dd with
  | put x =>
    rcases h with ⟨_, _, _, e⟩ | ⟨_, f, _, k⟩
    · rw [e]; omega
    · exact kr k
  | cut z t =>
    rcases h with ⟨_, _, _, e⟩ | ⟨x, _, _, _, _, e⟩
    · rw [e]; omega
    · rw [e]
      split
      · exact Nat.le_trans (List.length_filter_le _ _) (by omega)
      · split
        · exact putR_few
        · omega
  | stretch z t =>
    rcases h with ⟨_, _, _, e⟩ | ⟨x, _, _, ⟨_, f, _, k⟩ | ⟨_, _, _, e⟩⟩
    · rw [e]; omega
    · exact kr k
    · rw [e]; omega
  | drop z =>
    rcases h with ⟨_, _, _, e⟩ | ⟨_, _, _, e⟩
    · rw [e]; omega
    · rw [e]; exact Nat.le_trans (List.length_filter_le _ _) (by omega)
  | past t =>
    obtain ⟨_, _, _, _, _, e⟩ := h
    rw [e]
    exact Nat.le_trans (List.length_filter_le _ _) (by omega)
theorem put_keys {room : List Int} {rs rs' : List Bw} {x : Bw} {w : Str} {o : Out} (h : DueR room rs (.put x) w o rs') : ∀ y ∈ rs', y.key ∈ keysB rs ∨ y.key = x.key := fun y hy => by
  rcases h with ⟨_, _, _, e⟩ | ⟨_, f, _, k⟩
  · rw [e] at hy
    exact .inl (key_mem hy)
  · cases f with
    | some t =>
      rw [k.2.2] at hy
      exact .inl (key_mem hy)
    | none =>
      rw [k.2.2] at hy
      rcases putR_mem hy with z | z
      · exact .inl (key_mem z)
      · exact .inr (by rw [z])
section
variable {P : Program} {w : World} {K : PySem.W.Frag} {mg : Str → Option Value} {base : Heap} {C : Addr}
theorem ok_kgoes {f fA fT fU fS : Addr} {fd fdA fdT fdU fdS : FuncData} {k : Nat} {Ts : List Addr} (F : Fun K "_law_goes" "_law_goes" s_scKGoes f fd)
    (GA : FnOk P w K mg base CX0 k fA fdA ["_law_found", "_law_due_here"] (spAlk6 3)) (mA : mg "_law_alike" = some (.ref fA)) (kA : PySem.W.keepIn K (.ref fA) = true) (bA : L2.Binds K fdA ["_law_found", "_law_due_here"] [])
    (GT : FnOk P w K mg base CX0 k fT fdT ["_law_book", "_law_deed_here"] (spTold Ts C)) (mT : mg "_law_told" = some (.ref fT)) (kT : PySem.W.keepIn K (.ref fT) = true) (bT : L2.Binds K fdT ["_law_book", "_law_deed_here"] [])
    (GU : FnOk P w K mg base CX0 k fU fdU ["_law_m", "_law_deed_here"] (spDueK fun _ => True)) (mU : mg "_law_due" = some (.ref fU)) (kU : PySem.W.keepIn K (.ref fU) = true) (bU : L2.Binds K fdU ["_law_m", "_law_deed_here"] [])
    (GS : FnOk P w K mg base CX0 k fS fdS ["_law_book", "_law_m"] (spStands C)) (mS : mg "_law_stands" = some (.ref fS)) (kS : PySem.W.keepIn K (.ref fS) = true) (bS : L2.Binds K fdS ["_law_book", "_law_m"] []) :
    FnOk P w K mg base CX0 (k + 1) f fd ["_law_book", "_law_m", "_law_deed_here"] (spGoes Ts C) := by
  refine F.ok scKGoes (fun vs H Q E h => ?_) (fun cdv A outer s H vs Q E hr h => ?_)
  · obtain ⟨a, dx, m, d, mm, pr, rd, pd, Z, room, top, wide, rs, dd, rfl, _⟩ := h
    rfl
  · obtain ⟨a, dx, m, d, mm, pr, rd, pd, Z, room, top, wide, rs, dd, rfl, bo, few, hD, ok, q⟩ := h
    refine ⟨_, (pss_one (ps_ret (pe_and (pe_call GA hr (by rfl) mA kA bA .nil pass0 (pa_cons (pe_call GT hr (by rfl) mT kT bT .nil pass0 (pa_cons (pv 0) (pa_cons (pv 2) pa_nil))) (pa_cons (pe_call GU hr (by rfl) mU kU bU .nil pass0 (pa_cons (pv 1) (pa_cons (pv 2) pa_nil))) pa_nil))) (pe_one (pe_call GS hr (by rfl) mS kS bS .nil pass0 (pa_cons (pv 0) (pa_cons (pv 1) pa_nil))))))), ?_⟩
    obtain ⟨rows, es, M, hE, eb⟩ := bo.kp
    have g := bo.bk.good
    refine ⟨_, rfl, _, rfl, a, dx, m, d, pd, Z, room, rs, dd, rfl, bo.bk, few, hD, ok, fun t1 w1 o1 rs1 H1 due1 nt1 out1 k1 bk1 => ?_⟩
    have kt1 := bo.bk.kt k1
    have M1 := MAt.bk bo.bk bo.ne k1 M
    have E1 := hE.imp fun v r h => h.kt kt1
    have nd : (es.map (·.key)).Nodup := by
      rw [← bw_keys, eb]
      exact g.nd
    have le : es.length = rs.length := by rw [← eb, List.length_map]
    have lam : ∀ r ∈ es, r.am.length = room.length := fun r hr' => g.len (bwOf r) (by rw [← eb]; exact List.mem_map.mpr ⟨r, hr', rfl⟩)
    have arg : ArgOk room dd := by
      cases dd with
      | put x => exact ⟨ok.1, ok.2.1⟩
      | cut z t => exact trivial
      | stretch z t => exact trivial
      | drop z => exact trivial
      | past t => exact trivial
    refine ⟨_, rfl, _, rfl, mm, pr, rd, pd, room, top, wide, rows, es, dd, rfl, trivial, M1, E1, by omega, nd, lam, hD.kt kt1, arg, fun t2 w2 o2 rs2 rows2 es2 H2 due2 nt2 out2 k2 M2 E2 eb2 => ?_⟩
    rw [eb] at due2
    obtain ⟨rfl, rfl, rfl⟩ := dueR_uniq g.nd due1 due2
    have offR : ∀ x o, x ∈ [rd] → H1 x = some o → ∃ ps, o = .dK ps := fun x o hx ho => by
      rw [List.mem_singleton.mp hx, M1.rows] at ho
      exact ⟨_, (Option.some.inj ho).symm⟩
    have bk2 := bk1.kp k2 fun x o hx ho => .inl (by
      obtain ⟨ps, e⟩ := offR x o hx ho
      exact ⟨ps, e, by rw [List.mem_singleton.mp hx]; exact bo.ne.1.symm⟩)
    have bo2 : Both H2 Ts C a dx m d mm pr rd Z room top wide rs1 := ⟨bk2, ⟨rows2, es2, M2, E2, eb2⟩, bo.ne⟩
    have hkeys : ∀ zs, o1 = .keys zs → zs.length < 100000 := fun zs e => by
      subst e
      cases dd with
      | put x =>
        rcases due1 with ⟨_, _, z, _⟩ | ⟨_, fo, _, z⟩
        · cases z
        · cases fo with
          | none => cases z.2.1
          | some t => cases z.2.1
      | cut z t =>
        rcases due1 with ⟨_, _, z, _⟩ | ⟨x, _, _, _, z, _⟩ <;> cases z
      | stretch z t =>
        rcases due1 with ⟨_, _, z, _⟩ | ⟨x, _, _, ⟨_, fo, _, z⟩ | ⟨_, _, z, _⟩⟩
        · cases z
        · cases fo with
          | none => cases z.2.1
          | some t => cases z.2.1
        · cases z
      | drop z => rcases due1 with ⟨_, _, z, _⟩ | ⟨_, _, z, _⟩ <;> cases z
      | past t =>
        obtain ⟨ys, pm, _, _, z, _⟩ := due1
        cases z
        have := pm.length_eq
        rw [List.length_map] at this
        have l2 := List.length_filter_le (fun x : Bw => decide (x.e ≤ t)) rs
        omega
    refine ⟨_, _, rfl, al6_out (out1.kp k2 offR) out2 hkeys, fun H3 s3 => ⟨true, rfl, iteT ?_⟩⟩
    have bo3 := bo2.same s3
    obtain ⟨lv3, ps3, B3, L3⟩ := bo3.bk.at_
    obtain ⟨rows3, es3, M3, E3, eb3⟩ := bo3.kp
    refine ⟨_, rfl, _, rfl, a, dx, m, d, lv3, ps3, rs1, mm, pr, rd, room, top, wide, rows3, es3, rfl, B3, M3, E3, by rw [eb3], fun H4 s4 => ?_⟩
    refine q w1 o1 rs1 H4 due1 ?_ (bo3.same s4)
    have ka : Kp (rd :: a :: d :: Ts) H H1 := k1.mono fun x hx => List.mem_cons_of_mem _ hx
    have kb : Kp (rd :: a :: d :: Ts) H1 H2 := k2.mono fun x hx => by rw [List.mem_singleton.mp hx]; exact List.mem_cons_self
    exact (ka.trans kb).trans (Same.kp _ (s3.trans s4))
end
end My

namespace My
open PySem PySem.Spec PyProof.Rows L2 GX GxR XI
/-! what the books' laws begin with -/
theorem Fw.fresh {Ts L : List Addr} {H H1 H2 : Hp} (f : Fw Ts H H1) (k : Kp (L ++ Ts) H1 H2) (n : ∀ x ∈ L, H x = none) (t : Tabs Ts H2) : Fw Ts H H2 := by
  refine ⟨fun x o nx e => k _ _ (fun z => ?_) (f.kp _ _ nx e), t⟩
  rcases List.mem_append.mp z with z | z
  · rw [n x z] at e
    cases e
  · exact nx z
/-- a new book beside a new keeping -/
theorem both_new {H H' : Hp} {Ts : List Addr} {C a dx d mm pr rd : Addr} {Z : List Str} {room : List Int} {top wide : Int} (M : MAt H mm pr rd room top wide []) (t : Tabs Ts H) (zl : ∀ z ∈ Z, PySem.PyData.strOk z = true ∧ z.length ≤ 8) (na : H a = none) (nx : H dx = none) (dxa : dx ≠ a)
    (k : Kp [a] (upd (upd H dx (.own a)) a (.ins C dx [])) H') (e : H' a = some (.ins C dx (flds pr d .non))) (nd : upd (upd H dx (.own a)) a (.ins C dx []) d = none) (ed : H' d = some (.dK [])) :
    Same H H' ∧ Both H' Ts C a dx pr d mm pr rd Z room top wide [] ∧ H d = none := by
  have s1 : Same H (upd (upd H dx (.own a)) a (.ins C dx [])) := (same_upd nx).trans (same_upd (by rw [upd_ne (Ne.symm dxa)]; exact na))
  have s2 : Same H H' := fun x o ex => k _ _ (fun z => by
    rw [List.mem_singleton.mp z, na] at ex
    cases ex) (s1 _ _ ex)
  have nd0 : H d = none := s1.free nd
  have nn : ∀ n ∈ room, 0 ≤ n := fun n hn => (M.num n hn).1
  have M' := M.same s2
  refine ⟨s2, ⟨⟨⟨.non, [], ⟨e, M'.room, ed, .nil, .nil, by show 0 < 110; decide, ⟨by show 0 ≤ 200; decide, fun _ h => (nomatch h), fun _ h => (nomatch h)⟩, M.len1, by have := M.len8; omega⟩, .inl rfl⟩, BGood.nil nn, (Fw.same t s2).tabs, nn, zl⟩, ⟨[], [], M', .nil, rfl⟩, ?_⟩, nd0⟩
  exact ⟨(ne_of_none M.rows nd0).symm, (ne_of_none M.dict nd0).symm⟩
theorem namesN_len (n : Nat) : (namesN n).length = n := by
  unfold namesN
  rw [List.length_map, List.length_range]
theorem good_len {Z : List Str} {room : List Int} {rs : List Bw} (g : BGood Z room rs) : rs.length ≤ Z.length := by
  have := nodup_len g.nd (ys := Z) fun z hz => by
    obtain ⟨x, hx, rfl⟩ := List.mem_map.mp hz
    exact g.key x hx
  rw [List.length_map] at this
  exact this
section
variable {H H1 H2 : Hp} {Ts : List Addr} {C a dx m d mm pr rd b : Addr} {Z : List Str} {room : List Int} {top wide : Int} {rs : List Bw}
theorem Both.deed (bo : Both H Ts C a dx m d mm pr rd Z room top wide rs) : ∃ rows es, MAt H mm pr rd room top wide rows ∧ Ents H rows es ∧ es.length < 110 ∧ (∀ r ∈ es, PySem.PyData.strOk r.key = true ∧ r.key.length ≤ 8) ∧ es.map bwOf = rs := by
  obtain ⟨rows, es, M, E, eb⟩ := bo.kp
  obtain ⟨lv, ps, B, L⟩ := bo.bk.at_
  have le : es.length = rs.length := by rw [← eb, List.length_map]
  refine ⟨rows, es, M, E, by rw [le]; exact B.few, fun r hr' => bo.bk.zl _ (bo.bk.good.key (bwOf r) ?_), eb⟩
  rw [← eb]
  exact List.mem_map.mpr ⟨r, hr', rfl⟩
theorem Bt.goes (B : Bt H b) (bo : Both H Ts C a dx m d mm pr rd Z room top wide rs) (k : Kp (rd :: a :: d :: Ts) H H1) : Bt H1 b := by
  obtain ⟨xs, g1, g2⟩ := B
  refine ⟨xs, k _ _ (fun z => ?_) g1, g2⟩
  obtain ⟨rows3, es3, M3, _⟩ := bo.kp
  rcases List.mem_cons.mp z with z | z
  · rw [z, M3.rows] at g1; cases g1
  · exact bo.bk.lst g2 g1 z
theorem Fw.goes (f : Fw Ts H H1) (k : Kp (rd :: a :: d :: Ts) H1 H2) (nr : H rd = none) (na : H a = none) (nd : H d = none) (bo : Both H2 Ts C a dx m d mm pr rd Z room top wide rs) : Fw Ts H H2 :=
  f.fresh (L := [rd, a, d]) k (fun x hx => by
    rcases List.mem_cons.mp hx with z | hx
    · rw [z]; exact nr
    · rcases List.mem_cons.mp hx with z | hx
      · rw [z]; exact na
      · rw [List.mem_singleton.mp hx]; exact nd) bo.bk.tabs
theorem Fw.fill (f : Fw Ts H H1) (k : Kp (b :: rd :: a :: d :: Ts) H1 H2) (nb : H b = none) (nr : H rd = none) (na : H a = none) (nd : H d = none) (bo : Both H2 Ts C a dx m d mm pr rd Z room top wide rs) : Fw Ts H H2 :=
  f.fresh (L := [b, rd, a, d]) k (fun x hx => by
    rcases List.mem_cons.mp hx with z | hx
    · rw [z]; exact nb
    · rcases List.mem_cons.mp hx with z | hx
      · rw [z]; exact nr
      · rcases List.mem_cons.mp hx with z | hx
        · rw [z]; exact na
        · rw [List.mem_singleton.mp hx]; exact nd) bo.bk.tabs
theorem Fw.ask (f : Fw Ts H H1) (k : Kp [b, a] H1 H2) (nb : H b = none) (na : H a = none) (bo : Both H2 Ts C a dx m d mm pr rd Z room top wide rs) : Fw Ts H H2 :=
  f.fresh (L := [b, a]) (k.mono fun x hx => List.mem_append.mpr (.inl hx)) (fun x hx => by
    rcases List.mem_cons.mp hx with z | hx
    · rw [z]; exact nb
    · rw [List.mem_singleton.mp hx]; exact na) bo.bk.tabs
theorem range_63 (l : Nat) : ∃ n : Nat, (if (if (63 : Int) < (l : Int) then 63 else (l : Int)) > 6 then (if (63 : Int) < (l : Int) then 63 else (l : Int)) else 6) = (n : Int) ∧ n ≤ 63 := by
  refine ⟨(if (if (63 : Int) < (l : Int) then 63 else (l : Int)) > 6 then (if (63 : Int) < (l : Int) then 63 else (l : Int)) else 6).toNat, ?_, ?_⟩
  · split <;> split <;> omega
  · split <;> split <;> omega
end
end My

namespace My
open PySem PySem.Spec PyProof.Rows L2 GX GxR XI
abbrev s_scKFill : Stmt := topS 51
abbrev n_scKFill : List Str := ["_law_book", "_law_m", "_law_box_here", "_law_turns", "_law_many", "_law_turn"]
theorem scKFill : FnScope n_scKFill ["_law_book", "_law_m", "_law_box_here", "_law_turns", "_law_many"] (defScope s_scKFill) := ⟨rfl, rfl, rfl, by decide +kernel, rfl, by decide +kernel, by decide +kernel⟩
section
variable {P : Program} {w : World} {K : PySem.W.Frag} {mg : Str → Option Value} {base : Heap} {C : Addr}
set_option maxHeartbeats 1000000 in
theorem ok_kfill {f fG fD : Addr} {fd fdG fdD : FuncData} {k : Nat} {Ts : List Addr} (F : Fun K "_law_filled" "_law_filled" s_scKFill f fd) (X : Txt mg)
    (GG : FnOk P w K mg base CX0 k fG fdG ["_law_book", "_law_m", "_law_deed_here"] (spGoes Ts C)) (mG : mg "_law_goes" = some (.ref fG)) (kG : PySem.W.keepIn K (.ref fG) = true) (bG : L2.Binds K fdG ["_law_book", "_law_m", "_law_deed_here"] [])
    (GD : FnOk P w K mg base CX0 k fD fdD ["_law_box_here", "_law_m", "_law_words", "_law_many"] spDeed) (mD : mg "_law_deed" = some (.ref fD)) (kD : PySem.W.keepIn K (.ref fD) = true) (bD : L2.Binds K fdD ["_law_box_here", "_law_m", "_law_words", "_law_many"] []) :
    FnOk P w K mg base CX0 (k + 1) f fd ["_law_book", "_law_m", "_law_box_here", "_law_turns", "_law_many"] (spFilled Ts C) := by
  refine F.ok scKFill (fun vs H Q E h => ?_) (fun cdv A outer s H vs Q E hr h => ?_)
  · obtain ⟨a, dx, m, d, mm, pr, rd, b, Z, room, top, wide, rs, turns, many, rfl, _⟩ := h
    rfl
  · obtain ⟨a, dx, m, d, mm, pr, rd, b, Z, room, top, wide, rs, turns, many, rfl, bo, hB, few, n0, n1, hZ, q⟩ := h
    refine ⟨_, (C8.pss_cut (ps_for PassesOwn.never rfl (pi_range1 (by rfl) X.range (pa_cons (pv 3) pa_nil)) (pg_name (i := 5) scKFill.nd rfl (.inl rfl))
        (pss_one (ps_if (pt_not (pt_val (pe_call GG hr (by rfl) mG kG bG .nil pass0 (pa_cons (pv 0) (pa_cons (pv 1) (pa_cons (pe_call GD hr (by rfl) mD kD bD .nil pass0 (pa_cons (pv 2) (pa_cons (pv 1) (pa_cons (pe_lst (pa_cons pe_str pa_nil)) (pa_cons (pv 4) pa_nil))))) pa_nil))))))
          (pss_one (ps_ret pe_bl))
          pss_nil)))
      (pss_one (ps_ret pe_bl))), ?_⟩
    refine ⟨fun σ H' => ∃ rs', Kp (b :: rd :: a :: d :: Ts) H H' ∧ Both H' Ts C a dx m d mm pr rd Z room top wide rs' ∧ Bt H' b ∧ rs'.length ≤ rs.length + turns ∧ (∀ x ∈ rs', x.key ∈ keysB rs ∨ x.key ∈ namesN many), ?_, fun σ H' hm => ?_⟩
    · refine ⟨_, rfl, (turns : Int), rfl, by omega, by omega, ?_⟩
      rw [Int.toNat_natCast]
      refine for_range (lo := 0) (n := turns) (fun i σ H' => ∃ (y5 : Option V) (rs' : List Bw), σ = [some (.ref a), some (.ref mm), some (.ref b), some (.int (turns : Int)), some (.int (many : Int)), y5] ∧ Kp (b :: rd :: a :: d :: Ts) H H' ∧ Both H' Ts C a dx m d mm pr rd Z room top wide rs' ∧ Bt H' b ∧ rs'.length ≤ rs.length + i ∧ (∀ x ∈ rs', x.key ∈ keysB rs ∨ x.key ∈ namesN many))
        ⟨none, rs, rfl, Kp.refl _ _, bo, hB, Nat.le_refl _, fun x hx => .inl (key_mem hx)⟩ (fun i σ H1 hi p => ?_) (fun σ H1 p => ?_)
      · obtain ⟨y5, rs1, rfl, k1, bo1, B1, l1, c1⟩ := p
        obtain ⟨rows1, es1, M1, E1, eb1⟩ := bo1.kp
        have g1 := bo1.bk.good
        refine ⟨_, rfl, _, rfl, _, rfl, _, rfl, by show 1 ≤ sizeLine; decide, fun wl nl => ?_⟩
        have s2 := same_upd (o := .lst [V.str "put"]) nl
        have e2 : upd H1 wl (.lst [V.str "put"]) wl = some (.lst (([("put" : Str)]).map V.str)) := upd_same
        generalize upd H1 wl (.lst [V.str "put"]) = H2 at s2 e2 ⊢
        have B2 := B1.same s2
        have le : es1.length = rs1.length := by rw [← eb1, List.length_map]
        have nk : ∀ r ∈ es1, PySem.PyData.strOk r.key = true ∧ r.key.length ≤ 8 := fun r hr' => bo1.bk.zl _ (g1.key (bwOf r) (by rw [← eb1]; exact List.mem_map.mpr ⟨r, hr', rfl⟩))
        refine ⟨_, rfl, b, mm, pr, rd, wl, room, top, wide, rows1, es1, [("put" : Str)], many, rfl, B2, M1.same s2, E1.imp (fun v r h => h.same s2), by omega, nk, e2, by decide, by decide, fun x hx => .inl (List.mem_singleton.mp hx), n0, n1, fun pd dd H3 k3 B3 np3 hD3 okD wD => ?_⟩
        have bo3 := (bo1.same s2).box B2 k3
        cases dd with
        | put x =>
          obtain ⟨o1, o2, o3, o4, o5, o6⟩ := okD
          refine ⟨a, dx, m, d, mm, pr, rd, pd, Z, room, top, wide, rs1, .put x, rfl, bo3, by omega, hD3, ⟨o1, o2, o3, o4, o5, hZ _ o6⟩, fun w4 o4 rs4 H4 due4 k4 bo4 => ⟨true, rfl, iteF ?_⟩⟩
          have B4 : Bt H4 b := by
            obtain ⟨xs, g1, g2⟩ := B3
            refine ⟨xs, k4 _ _ (fun z => ?_) g1, g2⟩
            obtain ⟨rows3, es3, M3, _⟩ := bo3.kp
            rcases List.mem_cons.mp z with z | z
            · rw [z, M3.rows] at g1; cases g1
            · exact bo3.bk.lst g2 g1 z
          refine ⟨_, rs4, rfl, ?_, bo4, B4, ?_, fun y hy => ?_⟩
          · have ka : Kp (b :: rd :: a :: d :: Ts) H H3 := (k1.trans (Same.kp _ s2)).trans (k3.mono fun x hx => by rw [List.mem_singleton.mp hx]; exact List.mem_cons_self)
            exact ka.trans (k4.mono fun x hx => List.mem_cons_of_mem _ hx)
          · have := dueR_len due4
            omega
          · rcases put_keys due4 y hy with z | z
            · obtain ⟨y', hy', e⟩ := List.mem_map.mp z
              rw [← e]
              exact c1 y' hy'
            · rw [z]
              exact .inr o6
        | cut z t => exact absurd (List.mem_singleton.mp wD) (show ¬ (("cut" : Str) = "put") by decide +kernel)
        | stretch z t => exact absurd (List.mem_singleton.mp wD) (show ¬ (("stretch" : Str) = "put") by decide +kernel)
        | drop z => exact absurd (List.mem_singleton.mp wD) (show ¬ (("drop" : Str) = "put") by decide +kernel)
        | past t => exact absurd (List.mem_singleton.mp wD) (show ¬ (("past" : Str) = "put") by decide +kernel)
      · obtain ⟨y5, rs1, rfl, k1, bo1, B1, l1, c1⟩ := p
        exact ⟨rs1, k1, bo1, B1, l1, c1⟩
    · obtain ⟨rs1, k1, bo1, B1, l1, c1⟩ := hm
      exact q rs1 H' k1 bo1 B1 l1 c1
end
end My

namespace My
open PySem PySem.Spec PyProof.Rows L2 GX GxR
abbrev s_scLoadAt : Stmt := methS 27 6
abbrev n_scLoadAt : List Str := ["self", "time", "load", "key", "begin", "end", "amount"]
theorem scLoadAt : FnScope n_scLoadAt ["self", "time"] (defScope s_scLoadAt) := ⟨rfl, rfl, rfl, by decide +kernel, rfl, by decide +kernel, by decide +kernel⟩
section
variable {P : Program} {w : World} {K : PySem.W.Frag} {mg : Str → Option Value} {base : Heap} {C : Addr}
theorem ok_loadat {f fN fP : Addr} {fd fdN fdP : FuncData} {k : Nat} (F : Fun K "load_at" "Book.load_at" s_scLoadAt f fd) (X : Txt mg) (c : BCls K C)
    (GN : FnOk P w K mg base CX0 k fN fdN ["wares"] spNothing) (mN : mg "nothing_of" = some (.ref fN)) (kN : PySem.W.keepIn K (.ref fN) = true) (bN : L2.Binds K fdN ["wares"] [])
    (GP : FnOk P w K mg base CX0 k fP fdP ["one", "other"] (spZipS K (· + ·))) (mP : mg "amount_sum" = some (.ref fP)) (kP : PySem.W.keepIn K (.ref fP) = true) (bP : L2.Binds K fdP ["one", "other"] []) :
    FnOk P w K mg base CX0 (k + 1) f fd ["self", "time"] (spLoadAt K C) := by
  refine F.ok scLoadAt (fun vs H Q E h => ?_) (fun cdv A outer s H vs Q E hr h => ?_)
  · obtain ⟨a, dx, m, d, lv, ps, room, rs, t, rfl, _⟩ := h
    rfl
  · obtain ⟨a, dx, m, d, lv, ps, room, rs, t, rfl, B, q⟩ := h
    refine ⟨_, (pss_cons (ps_set (i := 2) scLoadAt.nd rfl (.inl rfl) (pe_call GN hr (by rfl) mN kN bN .nil pass0 (pa_cons (pe_callB call_len_seq (by rfl) X.len PySem.boot_len (pa_cons (pe_fld (pv 0) (by rfl)) pa_nil)) pa_nil)))
      (C8.pss_cut (ps_lock (ps_for PassesOwn.never rfl (pi_values (pe_fld (pv 0) (by rfl))) (pg_tup rfl (pgs_cons (pg_name (i := 3) scLoadAt.nd rfl (.inl rfl)) (pgs_cons (pg_name (i := 4) scLoadAt.nd rfl (.inl rfl)) (pgs_cons (pg_name (i := 5) scLoadAt.nd rfl (.inl rfl)) (pgs_cons (pg_name (i := 6) scLoadAt.nd rfl (.inl rfl)) pgs_nil)))))
        (pss_one (ps_if (pt_chain op_le op_lt (pv 4) (pv 1) (pv 5))
          (pss_one (ps_set (i := 2) scLoadAt.nd rfl (.inl rfl) (pe_call GP hr (by rfl) mP kP bP .nil pass0 (pa_cons (pv 2) (pa_cons (pv 6) pa_nil)))))
          pss_nil))))
      (pss_one (ps_ret (pv 2))))), ?_⟩
    have r1 := B.r1
    have r20 := B.r20
    have lp : ps.length = rs.length := B.prs.length
    refine ⟨_, rfl, a, C, dx, _, .ref m, rfl, B.obj, c.cls, c.room, rfl, m, _, rfl, .inr (SqT.of B.rm), room.length, by rw [List.length_map]; rfl, r1, by omega, fun z0 H1 s1 nz0 ez0 => ?_⟩
    have B1 := B.same s1
    have ad : a ≠ d := fun z => by
      have := B1.obj
      rw [z, B1.en] at this
      cases this
    refine ⟨fun σ H' => ∃ (l : Addr), σ[2]? = some (some (V.ref l)) ∧ Same H H' ∧ H l = none ∧ H' l = some (.tup ((netB room.length rs t).map V.int)), ?_, fun σ H2 hm => ?_⟩
    · refine ⟨d, _, B1.en, trivial, fun od => ?_⟩
      have kd : KTu H1 (upd H1 d (.frz od (.dK ps))) := kt_put B1.en (fun xs z => by cases z)
      have pr2 : Paired (EnAt (upd H1 d (.frz od (.dK ps)))) ps rs := B1.prs.mono fun _ _ x => x.kt kd
      have obj2 : upd H1 d (.frz od (.dK ps)) a = some (.ins C dx (flds m d lv)) := by
        rw [upd_ne ad]
        exact B1.obj
      have ed2 : upd H1 d (.frz od (.dK ps)) d = some (.frz od (.dK ps)) := upd_same
      have k2 : Kp [d] H1 (upd H1 d (.frz od (.dK ps))) := kp_lock
      have ez2 := kd _ _ ez0
      generalize upd H1 d (.frz od (.dK ps)) = H2 at pr2 obj2 ed2 k2 ez2 ⊢
      have free2 : ∀ x, H2 x = none → H x = none := fun x n => s1.free (kp_free k2 (fun z => by rw [z, ed2] at n; cases n) n)
      refine ⟨_, rfl, a, C, dx, _, .ref d, rfl, obj2, c.cls, c.entries, rfl, d, od, ps, rfl, ed2, ?_⟩
      refine for_it walk_values (fun i σ H' => ∃ (l : Addr) (y3 y4 y5 y6 : Option V), σ = [some (.ref a), some (.int t), some (.ref l), y3, y4, y5, y6] ∧ Same H2 H' ∧ H l = none ∧ H' l = some (.tup ((netB room.length (rs.take i) t).map V.int)))
        ⟨z0, none, none, none, none, rfl, Same.refl _, nz0, ?_⟩ (fun i σ H' _ p => ?_) (fun i x σ H3o H3 hi p y => ?_) (fun σ H3 p => ?_)
      · rw [List.take_zero, net_nil]
        exact ez2
      · obtain ⟨_, _, _, _, _, _, s3, _⟩ := p
        exact s3 _ _ ed2
      · obtain ⟨l, y3, y4, y5, y6, rfl, s3, nl, el⟩ := p
        obtain ⟨rfl, key, hk⟩ := y
        obtain ⟨R, hR, h1, r, h2, am, x1, x2⟩ := paired_get pr2 hk
        have h2' : x = .ref r := h2
        subst h2'
        have lam := B.ok.len R (List.mem_of_getElem? hR)
        have tk : rs.take (i + 1) = rs.take i ++ [R] := by
          rw [List.take_add_one, hR]
          rfl
        refine ⟨r, _, rfl, SqT.of (s3 _ _ x1), rfl, _, _, rfl, _, _, rfl, _, _, rfl, _, _, rfl, rfl, ?_⟩
        refine ⟨_, rfl, _, rfl, _, _, rfl, rfl, _, rfl, ite2 (fun e1 => ?_) (fun e1 => ?_)⟩
        · refine ⟨_, rfl, _, _, rfl, rfl, _, rfl, ite2 (fun e2 => ?_) (fun e2 => ?_)⟩
          · have lv : liveAt t R = true := decide_eq_true ⟨of_decide_eq_true e1, of_decide_eq_true e2⟩
            refine ⟨_, rfl, _, rfl, l, am, _, _, rfl, SqT.of el, SqT.of (s3 _ _ x2), by rw [netB_len]; omega, fun p3 H4 s4 n4 e4 => ?_⟩
            rw [net_add lv lam, ← tk] at e4
            exact ⟨p3, _, _, _, _, rfl, s3.trans s4, free2 _ (s3.free n4), e4⟩
          · refine ⟨l, _, _, _, _, rfl, s3, nl, ?_⟩
            rw [tk, net_skip (decide_eq_false fun z => e2 (decide_eq_true z.2))]
            exact el
        · refine ⟨false, rfl, iteF ⟨l, _, _, _, _, rfl, s3, nl, ?_⟩⟩
          rw [tk, net_skip (decide_eq_false fun z => e1 (decide_eq_true z.1))]
          exact el
      · obtain ⟨l, y3, y4, y5, y6, rfl, s3, nl, el⟩ := p
        refine ⟨s3 _ _ ed2, l, rfl, s1.trans (unlock_same B1.en (k2.trans (Same.kp _ s3))), nl, ?_⟩
        have ld : l ≠ d := fun z => by
          rw [z, s3 _ _ ed2] at el
          cases el
        rw [upd_ne ld, el, lp, List.take_length]
    · obtain ⟨l, e, s2, nl, el⟩ := hm
      exact ⟨_, e, q l H2 s2 nl el⟩
end
end My

namespace My
open PySem PySem.Spec PyProof.Rows L2 GX GxR
abbrev s_scLRows : Stmt := methS 27 15
abbrev n_scLRows : List Str := ["self", "begin", "end", "load"]
theorem scLRows : FnScope n_scLRows ["self"] (defScope s_scLRows) := ⟨rfl, rfl, rfl, by decide +kernel, rfl, by decide +kernel, by decide +kernel⟩
abbrev s_scLOver : Stmt := methS 27 7
abbrev n_scLOver : List Str := ["self", "begin", "end", "least", "since", "till", "left"]
theorem scLOver : FnScope n_scLOver ["self", "begin", "end"] (defScope s_scLOver) := ⟨rfl, rfl, rfl, by decide +kernel, rfl, by decide +kernel, by decide +kernel⟩
abbrev s_scALeast : Stmt := topS 6
abbrev n_scALeast : List Str := ["one", "other", "a", "b"]
theorem scALeast : FnScope n_scALeast ["one", "other"] (defScope s_scALeast) := ⟨rfl, rfl, rfl, by decide +kernel, rfl, by decide +kernel, by decide +kernel⟩
section
variable {P : Program} {w : World} {K : PySem.W.Frag} {mg : Str → Option Value} {base : Heap} {C : Addr}
theorem ok_aleast {f : Addr} {fd : FuncData} {k : Nat} (F : Fun K "amount_least" "amount_least" s_scALeast f fd) (X : Txt mg) : FnOk P w K mg base CX0 (k + 1) f fd ["one", "other"] (spZipS K minI) := by
  refine F.ok scALeast (fun vs H Q E h => ?_) (fun cdv A outer s H vs Q E hr h => ?_)
  · obtain ⟨a, b, xs, ys, rfl, _⟩ := h
    rfl
  · obtain ⟨a, b, xs, ys, rfl, hX, hY, hl, q⟩ := h
    refine ⟨_, (pss_one (ps_ret (pe_callTy call_tuple_of (by rfl) X.tup bt_tuple (pa_cons (pe_lc (own := [("a", 2), ("b", 3)]) (g := (gTup K 2 (gCons (gName 2) (gCons (gName 3) gNil)))) (tt := tYes) rfl scALeast.nd (RZ.pi_zipA (by rfl) X.zip (pa_cons (pv 0) (pa_cons (pv 1) pa_nil))) (blkOk_by (own := [("a", 2), ("b", 3)]) (N := n_scALeast) (sc := defScope s_scALeast) (by decide +kernel)) (fun _ _ _ _ _ => (pg_tup rfl (pgs_cons (pg_name (i := 2) scALeast.nd rfl (.inl rfl)) (pgs_cons (pg_name (i := 3) scALeast.nd rfl (.inl rfl)) pgs_nil)))) (fun _ _ _ _ _ => pts_nil) (fun _ _ _ _ _ => (pe_ifExp (pt_cmpR op_lt (pv 2) (pv 3) (nomark _)) (pv 2) (pv 3)))) pa_nil)))), ?_⟩
    refine ⟨_, rfl, _, rfl, a, b, _, _, rfl, .inr ⟨hX, hY, fun D nD => lc_it (walk_zipT (xs := xs.map V.int) (ys := ys.map V.int) rfl) (fun i H' => Same H H' ∧ H' D = some (.lst (((List.zipWith minI xs ys).take i).map V.int))) ⟨same_upd nD, upd_same⟩ (fun i H' _ p => ⟨same_seqT p.1 hX, same_seqT p.1 hY⟩) (fun i v H3 H4 hi p y => ?_) (fun H3 p => ?_)⟩⟩
    · obtain ⟨T1, x1, x2, rfl, nT, rfl, g1, g2⟩ := y
      obtain ⟨p1, p2⟩ := p
      obtain ⟨x, hx, rfl⟩ := get_int g1
      obtain ⟨y, hy, rfl⟩ := get_int g2
      have s3 : Same H3 (upd H3 T1 (.tup [.int x, .int y])) := same_upd nT
      have hi2 : i < xs.length := (List.getElem?_eq_some_iff.mp hx).1
      refine ⟨T1, [.int x, .int y], rfl, SqT.of upd_same, rfl, .int x, [.int y], rfl, .int y, [], rfl, rfl, rfl, ?_⟩
      refine ⟨_, rfl, _, rfl, x, y, rfl, rfl, _, rfl, ite2 (fun e => ?_) (fun e => ?_)⟩
      · refine ⟨_, rfl, _, s3 _ _ p2, ?_, same_putA (p1.trans s3) nD, ?_⟩
        · rw [List.length_map, List.length_take]
          exact small1000 (by omega)
        · rw [upd_same, zw_take hx hy, List.map_append, show minI x y = x by (have e1 := of_decide_eq_true e; unfold minI; split <;> omega)]
          rfl
      · refine ⟨_, rfl, _, s3 _ _ p2, ?_, same_putA (p1.trans s3) nD, ?_⟩
        · rw [List.length_map, List.length_take]
          exact small1000 (by omega)
        · rw [upd_same, zw_take hx hy, List.map_append, show minI x y = y by (have e1 : ¬ x < y := fun z => e (decide_eq_true z); unfold minI; split <;> omega)]
          rfl
    · obtain ⟨p1, p2⟩ := p
      rw [List.take_of_length_le (by rw [List.length_zipWith, List.length_map, List.length_map]; exact Nat.le_refl _)] at p2
      refine ⟨D, _, rfl, .inl ⟨SqL.of p2, fun d nd => ?_⟩⟩
      exact q d _ (p1.trans (same_upd nd)) (p1.free nd) upd_same
theorem ok_lrows {f fE fD fM : Addr} {fd fdE fdD fdM : FuncData} {k : Nat} (F : Fun K "left_rows" "Book.left_rows" s_scLRows f fd) (X : Txt mg) (c : BCls K C)
    (GE : FnOk P w K mg base CX0 k fE fdE ["self"] (spERows K C)) (ME : Meth K C "entry_rows" fE) (bE : L2.Binds K fdE ["self"] [])
    (GD : FnOk P w K mg base CX0 k fD fdD ["wares", "rows"] (spLoads K)) (mD : mg "loads_of" = some (.ref fD)) (kD : PySem.W.keepIn K (.ref fD) = true) (bD : L2.Binds K fdD ["wares", "rows"] [])
    (GM : FnOk P w K mg base CX0 k fM fdM ["one", "other"] (spZipS K (· - ·))) (mM : mg "amount_less" = some (.ref fM)) (kM : PySem.W.keepIn K (.ref fM) = true) (bM : L2.Binds K fdM ["one", "other"] []) :
    FnOk P w K mg base CX0 (k + 1) f fd ["self"] (spLRows K C) := by
  have cB := c.cls
  refine F.ok scLRows (fun vs H Q E h => ?_) (fun cdv A outer s H vs Q E hr h => ?_)
  · obtain ⟨a, dx, m, d, lv, ps, room, rs, rfl, _⟩ := h
    rfl
  · obtain ⟨a, dx, m, d, lv, ps, room, rs, rfl, B, LA, q⟩ := h
    refine ⟨_, (C8.pss_cut (ps_if (pt_cmpR op_isN (pe_fld (pv 0) (by rfl)) pe_non (nomark _))
        (pss_one (ps_fld (pv 0) (pe_lc (own := [("begin", 1), ("end", 2), ("load", 3)]) (g := (gTup K 3 (gCons (gName 1) (gCons (gName 2) (gCons (gName 3) gNil))))) (tt := tYes) (te := (tTup (tCons (tVar 1) (tCons (tVar 2) (tCons (tCall (spZipS K (· - ·)) [] E0 (tCons (tFld K (tVar 0) "room") (tCons (tVar 3) tNil))) tNil))))) rfl scLRows.nd (pi_list (pe_call GD hr (by rfl) mD kD bD .nil pass0 (pa_cons (pe_callB call_len_seq (by rfl) X.len PySem.boot_len (pa_cons (pe_fld (pv 0) (by rfl)) pa_nil)) (pa_cons (pe_meth0 (pv 0) cB ME GE hr bE .nil pass0) pa_nil)))) (blkOk_by (own := [("begin", 1), ("end", 2), ("load", 3)]) (N := n_scLRows) (sc := defScope s_scLRows) (by decide +kernel)) (fun _ _ _ _ _ => (pg_tup rfl (pgs_cons (pg_name (i := 1) scLRows.nd rfl (.inl rfl)) (pgs_cons (pg_name (i := 2) scLRows.nd rfl (.inl rfl)) (pgs_cons (pg_name (i := 3) scLRows.nd rfl (.inl rfl)) pgs_nil))))) (fun _ _ _ _ _ => pts_nil) (fun _ _ _ _ _ => (pe_tup (pa_cons (pv 1) (pa_cons (pv 2) (pa_cons (pe_call GM hr (by rfl) mM kM bM .nil pass0 (pa_cons (pe_fld (pv 0) (by rfl)) (pa_cons (pv 3) pa_nil))) pa_nil)))))) rfl))
        pss_nil)
      (pss_one (ps_ret (pe_fld (pv 0) (by rfl))))), ?_⟩
    have r1 := B.r1
    have r20 := B.r20
    refine ⟨fun σ H' => ∃ (l : Addr) (ls : List Addr) (ks : List Int), σ[0]? = some (some (V.ref a)) ∧ Kp [a] H H' ∧ H' a = some (.ins C dx (flds m d (.ref l))) ∧ H' l = some (.lst (ls.map V.ref)) ∧ Srt rs ks ∧ Paired (LfAt room rs H') ls (ks.zip (ks.drop 1)), ?_, fun σ H2 hm => ?_⟩
    · refine ⟨_, rfl, a, C, dx, _, lv, rfl, B.obj, c.cls, c.lefts, rfl, rfl, _, rfl, ite2 (fun e => ?_) (fun e => ?_)⟩
      · refine ⟨_, rfl, a, C, dx, _, .ref m, rfl, B.obj, c.cls, c.room, rfl, m, _, rfl, .inr (SqT.of B.rm), ?_⟩
        refine ⟨_, rfl, a, dx, _, rfl, B.obj, rfl, a, dx, m, d, lv, ps, room, rs, rfl, B, fun p H1 as ss s1 np ep prs ik => ?_⟩
        refine ⟨p, room.length, as, ss, by rw [List.length_map]; rfl, SqL.of ep, prs, B.ok.perm ik.1, r1, r20, fun p2 H2 ls ks s2 np2 ep2 sr pl => ⟨p2, rfl, ⟨_, SqL.of ep2⟩, fun D nD => ?_⟩⟩
        have s02 := s1.trans s2
        have B2 := B.same s02
        have lk : ks.length ≤ 220 := by
          have h1 : ks.Nodup := sr.1.imp fun h z => by omega
          have h2 : ∀ t ∈ ks, t ∈ ss.map (·.b) ++ ss.map (·.e) := fun t ht => by
            obtain ⟨x, hx, e⟩ := (sr.2 t).mp ht
            rcases e with e | e
            · exact List.mem_append.mpr (.inl (List.mem_map.mpr ⟨x, hx, e⟩))
            · exact List.mem_append.mpr (.inr (List.mem_map.mpr ⟨x, hx, e⟩))
          have h3 := nodup_len h1 h2
          have h4 := ik.1.length_eq
          have h5 := B.few
          rw [List.length_append, List.length_map, List.length_map] at h3
          omega
        have ll := pl.length
        rw [List.length_zip, List.length_drop] at ll
        refine lc_list (K := K) (a := p2) (xs := ls.map V.ref) (fun i H' => Same H2 H' ∧ ∃ cs : List Addr, H' D = some (.lst (cs.map V.ref)) ∧ Paired (LfAt room rs H') cs ((ks.zip (ks.drop 1)).take i))
          ⟨same_upd nD, [], upd_same, .nil⟩ (fun i H' _ p => SqL.of (p.1 _ _ ep2)) (fun i x H3 hx p => ?_) (fun H3 p => ?_)
        · obtain ⟨p1, cs, e3, p3⟩ := p
          obtain ⟨rl, hrl, rfl⟩ := map_get hx
          obtain ⟨z, hz, ld⟩ := paired_get pl hrl
          obtain ⟨pn, l1, l2⟩ := ld.kt (Same.kt p1)
          rw [net_perm ik.1] at l2
          have B3 := B2.same p1
          have lu := p3.length
          rw [List.length_take, List.length_zip, List.length_drop] at lu
          refine ⟨rl, _, rfl, SqT.of l1, rfl, _, _, rfl, _, _, rfl, _, _, rfl, rfl, rfl, ?_⟩
          refine ⟨_, rfl, _, rfl, _, rfl, a, C, dx, _, .ref m, rfl, B3.obj, c.cls, c.room, rfl, _, rfl, m, pn, room, _, rfl, SqT.of B3.rm, SqT.of l2, by omega, fun p5 H5 s5 n5 e5 => ?_⟩
          refine ⟨by show 3 ≤ sizeLine; decide, fun T nT => ⟨_, same_upd nT _ _ (s5 _ _ e3), ?_, same_put ((p1.trans s5).trans (same_upd nT)) nD, cs ++ [T], ?_, ?_⟩⟩
          · rw [List.length_map]
            exact small63 (by omega)
          · rw [upd_same, List.map_append]
            rfl
          · have k1 : KTu H5 (upd H5 T (.tup [.int z.1, .int z.2, .ref p5])) := kt_new nT
            have k2 : KTu (upd H5 T (.tup [.int z.1, .int z.2, .ref p5])) (upd (upd H5 T (.tup [.int z.1, .int z.2, .ref p5])) D (.lst (cs.map V.ref ++ [.ref T]))) := kt_put (same_upd nT _ _ (s5 _ _ e3)) (fun xs z => by cases z)
            rw [List.take_add_one, hz]
            exact Paired.snoc (p3.mono fun _ _ x => x.kt ((Same.kt s5).trans (k1.trans k2))) ⟨p5, k2 _ _ upd_same, k2 _ _ (k1 _ _ e5)⟩
        · obtain ⟨p1, cs, e3, p3⟩ := p
          rw [List.take_of_length_le (by rw [List.length_zip, List.length_drop, List.length_map]; omega)] at p3
          have s03 := s02.trans p1
          have B3 := B.same s03
          have Da : D ≠ a := fun z => by
            have := B3.obj
            rw [← z, e3] at this
            cases this
          refine ⟨_, rfl, a, C, dx, _, rfl, B3.obj, c.cls, c.lefts, by show 3 < 1000; decide, D, cs, ks, rfl, ?_, ?_, ?_, sr.perm ik.1, ?_⟩
          · exact fun x o nx e => by
              rw [upd_ne fun z => nx (List.mem_singleton.mpr z)]
              exact s03 _ _ e
          · rw [upd_same]
            rfl
          · rw [upd_ne Da]
            exact e3
          · exact p3.mono fun _ _ x => x.kt (kt_put B3.obj (fun xs z => by cases z))
      · rcases LA with z | ⟨l, ls, ks, rfl, h1, h2, h3⟩
        · exact absurd (decide_eq_true z) e
        · exact ⟨l, ls, ks, rfl, Kp.refl _ _, B.obj, h1, h2, h3⟩
    · obtain ⟨l, ls, ks, e, k2, o2, h1, h2, h3⟩ := hm
      exact ⟨_, e, a, C, dx, _, .ref l, rfl, o2, c.cls, c.lefts, rfl, q l H2 ls ks k2 o2 h1 h2 h3⟩
theorem ok_lover {f fR fA : Addr} {fd fdR fdA : FuncData} {k : Nat} (F : Fun K "left_over" "Book.left_over" s_scLOver f fd) (c : BCls K C)
    (GR : FnOk P w K mg base CX0 k fR fdR ["self"] (spLRows K C)) (MR : Meth K C "left_rows" fR) (bR : L2.Binds K fdR ["self"] [])
    (GA : FnOk P w K mg base CX0 k fA fdA ["one", "other"] (spZipS K minI)) (mA : mg "amount_least" = some (.ref fA)) (kA : PySem.W.keepIn K (.ref fA) = true) (bA : L2.Binds K fdA ["one", "other"] []) :
    FnOk P w K mg base CX0 (k + 1) f fd ["self", "begin", "end"] (spLOver K C) := by
  have cB := c.cls
  refine F.ok scLOver (fun vs H Q E h => ?_) (fun cdv A outer s H vs Q E hr h => ?_)
  · obtain ⟨a, dx, m, d, lv, ps, room, rs, b, e, rfl, _⟩ := h
    rfl
  · obtain ⟨a, dx, m, d, lv, ps, room, rs, b, e, rfl, B, LA, q⟩ := h
    refine ⟨_, (pss_cons (ps_set (i := 3) scLOver.nd rfl (.inl rfl) pe_non)
      (C8.pss_cut (ps_for PassesOwn.never rfl (pi_list (pe_meth0 (pv 0) cB MR GR hr bR .nil pass0)) (pg_tup rfl (pgs_cons (pg_name (i := 4) scLOver.nd rfl (.inl rfl)) (pgs_cons (pg_name (i := 5) scLOver.nd rfl (.inl rfl)) (pgs_cons (pg_name (i := 6) scLOver.nd rfl (.inl rfl)) pgs_nil))))
        (pss_one (ps_if (PW.pt (pw_and (pt_cmpR op_lt (pv 4) (pv 2) (nomark _)) (pw_and1 (pt_cmpR op_lt (pv 1) (pv 5) (nomark _)))))
          (pss_one (ps_set (i := 3) scLOver.nd rfl (.inl rfl) (pe_ifExp (pt_cmpR op_isN (pv 3) pe_non (nomark _)) (pv 6) (pe_call GA hr (by rfl) mA kA bA .nil pass0 (pa_cons (pv 3) (pa_cons (pv 6) pa_nil))))))
          pss_nil)))
      (pss_one (ps_ret (pe_ifExp (pt_cmpR op_isN (pv 3) pe_non (nomark _)) (pe_fld (pv 0) (by rfl)) (pv 3)))))), ?_⟩
    have r20 := B.r20
    refine ⟨fun σ H' => ∃ (l : Addr) (ls : List Addr) (ks : List Int) (v : V) (y4 y5 y6 : Option V), σ = [some (V.ref a), some (.int b), some (.int e), some v, y4, y5, y6] ∧ Kp [a] H H' ∧ H' a = some (.ins C dx (flds m d (.ref l))) ∧ H' l = some (.lst (ls.map V.ref)) ∧ Srt rs ks ∧ Paired (LfAt room rs H') ls (ks.zip (ks.drop 1)) ∧ LV H' v (leastLeft room rs b e (ks.zip (ks.drop 1))), ?_, fun σ H2 hm => ?_⟩
    · refine ⟨_, rfl, a, dx, _, rfl, B.obj, rfl, a, dx, m, d, lv, ps, room, rs, rfl, B, LA, fun l H1 ls ks k1 o1 e1 sr pl => ⟨l, rfl, ⟨_, SqL.of e1⟩, ?_⟩⟩
      have ll := pl.length
      refine for_list (xs := ls.map V.ref) (fun i σ H' => ∃ (v : V) (y4 y5 y6 : Option V), σ = [some (V.ref a), some (.int b), some (.int e), some v, y4, y5, y6] ∧ Same H1 H' ∧ LV H' v (leastLeft room rs b e ((ks.zip (ks.drop 1)).take i)))
        ⟨.non, none, none, none, rfl, Same.refl _, rfl⟩ (fun i σ H' _ p => ?_) (fun i x σ H3 hx p => ?_) (fun σ H3 p => ?_)
      · obtain ⟨_, _, _, _, _, s2, _⟩ := p
        exact SqL.of (s2 _ _ e1)
      · obtain ⟨v, y4, y5, y6, rfl, s2, hv⟩ := p
        obtain ⟨rl, hrl, rfl⟩ := map_get hx
        obtain ⟨z, hz, ld⟩ := paired_get pl hrl
        obtain ⟨pn, l1, l2⟩ := ld.kt (Same.kt s2)
        have ln : (lessL room (netB room.length rs z.1)).length ≤ 20 := Nat.le_trans less_len r20
        have tk : (ks.zip (ks.drop 1)).take (i + 1) = (ks.zip (ks.drop 1)).take i ++ [z] := by
          rw [List.take_add_one, hz]
          rfl
        have skip : meets b e z = false → LV H3 v (leastLeft room rs b e ((ks.zip (ks.drop 1)).take (i + 1))) := fun h => by
          rw [tk, left_snoc, h, if_neg Bool.false_ne_true]
          exact hv
        refine ⟨rl, _, rfl, SqT.of l1, rfl, _, _, rfl, _, _, rfl, _, _, rfl, rfl, ?_⟩
        refine ⟨_, rfl, _, rfl, _, _, rfl, rfl, _, rfl, ite2 (fun g1 => ?_) (fun g1 => iteF ⟨v, _, _, _, rfl, s2, skip ?_⟩)⟩
        · refine ⟨_, rfl, _, rfl, _, _, rfl, rfl, _, rfl, ite2 (fun g2 => ?_) (fun g2 => ⟨v, _, _, _, rfl, s2, skip ?_⟩)⟩
          · have mt : meets b e z = true := by
              unfold meets
              rw [Bool.and_eq_true]
              exact ⟨g1, g2⟩
            refine ⟨_, rfl, rfl, _, rfl, ite2 (fun n => ?_) (fun n => ?_)⟩
            · have vn := of_decide_eq_true n
              refine ⟨_, rfl, _, _, _, _, rfl, s2, ?_⟩
              rw [tk, left_snoc, mt, if_pos rfl]
              cases ho : leastLeft room rs b e ((ks.zip (ks.drop 1)).take i) with
              | none => exact ⟨ln, pn, rfl, l2⟩
              | some ns =>
                rw [ho] at hv
                obtain ⟨_, p, h2, _⟩ := hv
                rw [vn] at h2
                cases h2
            · cases ho : leastLeft room rs b e ((ks.zip (ks.drop 1)).take i) with
              | none =>
                rw [ho] at hv
                exact absurd (decide_eq_true (show v = .non from hv)) n
              | some ns =>
                rw [ho] at hv
                obtain ⟨h1, p, rfl, h3⟩ := hv
                refine ⟨_, rfl, _, rfl, p, pn, ns, _, rfl, SqT.of h3, SqT.of l2, by omega, fun p5 H5 s5 n5 e5 => ⟨_, _, _, _, rfl, s2.trans s5, ?_⟩⟩
                rw [tk, left_snoc, mt, if_pos rfl, ho]
                refine ⟨?_, p5, rfl, e5⟩
                have := zip_len (op := minI) ns (lessL room (netB room.length rs z.1))
                omega
          · unfold meets
            rw [eq_false_of_ne_true g2, Bool.and_false]
        · unfold meets
          rw [eq_false_of_ne_true g1, Bool.false_and]
      · obtain ⟨v, y4, y5, y6, rfl, s2, hv⟩ := p
        rw [List.length_map, List.take_of_length_le (by omega)] at hv
        exact ⟨l, ls, ks, v, _, _, _, rfl, k1.trans (Same.kp _ s2), s2 _ _ o1, s2 _ _ e1, sr, pl.mono fun _ _ x => x.kt (Same.kt s2), hv⟩
    · obtain ⟨l, ls, ks, v, y4, y5, y6, rfl, k2, o2, h1, h2, h3, hv⟩ := hm
      have am : m ≠ a := fun z => by
        have := B.rm
        rw [z, B.obj] at this
        cases this
      have rm2 := k2 _ _ (fun z => am (List.mem_singleton.mp z)) B.rm
      have fin : ∀ p, H2 p = some (.tup (((leastLeft room rs b e (ks.zip (ks.drop 1))).getD room).map V.int)) → Q (.ref p) H2 := fun p hp => q p l H2 ls ks k2 o2 h1 h2 h3 hp
      refine ⟨_, rfl, rfl, _, rfl, ite2 (fun n => ?_) (fun n => ?_)⟩
      · refine ⟨_, rfl, a, C, dx, _, .ref m, rfl, o2, c.cls, c.room, rfl, fin m ?_⟩
        cases ho : leastLeft room rs b e (ks.zip (ks.drop 1)) with
        | none => exact rm2
        | some ns =>
          rw [ho] at hv
          obtain ⟨_, p, hp, _⟩ := hv
          have vn : v = .non := of_decide_eq_true n
          rw [vn] at hp
          cases hp
      · cases ho : leastLeft room rs b e (ks.zip (ks.drop 1)) with
        | none =>
          rw [ho] at hv
          exact absurd (decide_eq_true (show v = .non from hv)) n
        | some ns =>
          rw [ho] at hv
          obtain ⟨_, p, rfl, hp⟩ := hv
          refine ⟨_, rfl, fin p ?_⟩
          rw [ho]
          exact hp
end
end My

namespace My
open PySem PySem.Spec PyProof.Rows L2 GX GxR
abbrev s_scTwin : Stmt := methS 27 12
abbrev n_scTwin : List Str := ["self", "twin"]
theorem scTwin : FnScope n_scTwin ["self"] (defScope s_scTwin) := ⟨rfl, rfl, rfl, by decide +kernel, rfl, by decide +kernel, by decide +kernel⟩
def spTwin (C : Addr) : Sp := fun vs H Q _ => ∃ (a dx m d : Addr) (lv : V) (ps : List (Key × V)) (room : List Int) (rs : List Bw), vs = [.ref a] ∧ BookAt H C a dx m d lv ps room rs ∧
  ∀ a2 dx2 d2 H', Same H H' → H a2 = none → H d2 = none → H' a2 = some (.ins C dx2 (flds m d2 lv)) → H' d2 = some (.dK ps) → Q (.ref a2) H'
section
variable {P : Program} {w : World} {K : PySem.W.Frag} {mg : Str → Option Value} {base : Heap} {C : Addr}
theorem ok_twin {f fI : Addr} {fd fdI : FuncData} {k : Nat} (F : Fun K "twin_book" "Book.twin_book" s_scTwin f fd) (c : BCls K C) (mk : Mk K C fI) (mBook : mg "Book" = some (.ref C)) (mDict : mg "dict" = none)
    (GI : FnOk P w K mg base CX0 k fI fdI ["self", "room"] (spBInit C)) (bI : L2.Binds K fdI ["self", "room"] []) : FnOk P w K mg base CX0 (k + 1 + 1) f fd ["self"] (spTwin C) := by
  refine F.ok scTwin (fun vs H Q E h => ?_) (fun cdv A outer s H vs Q E hr h => ?_)
  · obtain ⟨a, dx, m, d, lv, ps, room, rs, rfl, _⟩ := h
    rfl
  · obtain ⟨a, dx, m, d, lv, ps, room, rs, rfl, B, q⟩ := h
    refine ⟨_, (pss_cons (ps_set (i := 1) scTwin.nd rfl (.inl rfl) (pe_make mk GI hr (by rfl) mBook bI .nil pass0 (pa_cons (pe_fld (pv 0) (by rfl)) pa_nil)))
      (pss_cons (ps_fld (pv 1) (pe_callTy call_dictD (by rfl) mDict (by decide +kernel) (pa_cons (pe_fld (pv 0) (by rfl)) pa_nil)) rfl)
      (pss_cons (ps_fld (pv 1) (pe_fld (pv 0) (by rfl)) rfl)
      (pss_one (ps_ret (pv 1)))))), ?_⟩
    refine ⟨_, rfl, a, C, dx, _, .ref m, rfl, B.obj, c.cls, c.room, rfl, fun x dx2 nx ndx nex => ?_⟩
    refine ⟨x, dx2, m, rfl, upd_same, fun d0 H1 k1 e1 nd0 ed0 => ⟨rfl, ?_⟩⟩
    have s0 : Same H (upd (upd H dx2 (.own x)) x (.ins C dx2 [])) := (same_upd ndx).trans (same_upd (by rw [upd_ne (Ne.symm nex)]; exact nx))
    have s1 : Same H H1 := fun y o ey => k1 _ _ (fun z => by
      rw [List.mem_singleton.mp z, nx] at ey
      cases ey) (s0 _ _ ey)
    have B1 := B.same s1
    have ax : a ≠ x := ne_of_none B.obj nx
    refine ⟨_, rfl, a, C, dx, _, .ref d, rfl, B1.obj, c.cls, c.entries, rfl, d, ps, rfl, Rd.of B1.en, fun d2 nd2 => ?_⟩
    have s2 := s1.trans (same_upd (o := .dK ps) nd2)
    have e2 := same_upd (o := .dK ps) nd2 _ _ e1
    have ed2 : upd H1 d2 (.dK ps) d2 = some (.dK ps) := upd_same
    have d2x : d2 ≠ x := fun z => by
      rw [z, e1] at nd2
      cases nd2
    have nd2H : H d2 = none := s1.free nd2
    generalize upd H1 d2 (.dK ps) = H2 at s2 e2 ed2 ⊢
    refine ⟨_, rfl, x, C, dx2, _, rfl, e2, c.cls, c.entries, by show 3 < 1000; decide, ?_⟩
    have s3 : Same H (upd H2 x (.ins C dx2 (putF "entries" (.ref d2) (flds m d0 .non)))) := same_put s2 nx
    have e3 : upd H2 x (.ins C dx2 (putF "entries" (.ref d2) (flds m d0 .non))) x = some (.ins C dx2 (flds m d2 .non)) := upd_same
    have ed3 : upd H2 x (.ins C dx2 (putF "entries" (.ref d2) (flds m d0 .non))) d2 = some (.dK ps) := by
      rw [upd_ne d2x]
      exact ed2
    generalize upd H2 x (.ins C dx2 (putF "entries" (.ref d2) (flds m d0 .non))) = H3 at s3 e3 ed3 ⊢
    have B3 := B.same s3
    refine ⟨_, rfl, a, C, dx, _, lv, rfl, B3.obj, c.cls, c.lefts, rfl, _, rfl, x, C, dx2, _, rfl, e3, c.cls, c.lefts, by show 3 < 1000; decide, ?_⟩
    refine ⟨_, rfl, q x dx2 d2 _ (same_put s3 nx) nx nd2H upd_same ?_⟩
    rw [upd_ne d2x]
    exact ed3
end
end My

namespace My
open PySem PySem.Spec PyProof.Rows L2 GX GxR XI
abbrev s_scKBT : Stmt := topS 52
abbrev n_scKBT : List Str := ["_law_book", "_law_m", "_law_begin", "_law_end", "_law_left", "_law_time_here", "_law_load_here", "_law_a", "_law_b", "_law_c"]
theorem scKBT : FnScope n_scKBT ["_law_book", "_law_m", "_law_begin", "_law_end"] (defScope s_scKBT) := ⟨rfl, rfl, rfl, by decide +kernel, rfl, by decide +kernel, by decide +kernel⟩
abbrev s_scKJF : Stmt := topS 53
abbrev n_scKJF : List Str := ["_law_book", "_law_begin", "_law_end", "_law_left", "_law_place", "_law_more"]
theorem scKJF : FnScope n_scKJF ["_law_book", "_law_begin", "_law_end", "_law_left", "_law_place"] (defScope s_scKJF) := ⟨rfl, rfl, rfl, by decide +kernel, rfl, by decide +kernel, by decide +kernel⟩
def timesBE (b : Int) (n : Nat) : List Int := (List.range n).map fun i : Nat => b + (i : Int)
theorem times_mem {b t : Int} {n : Nat} : t ∈ timesBE b n ↔ b ≤ t ∧ t < b + (n : Int) := by
  unfold timesBE
  rw [List.mem_map]
  constructor
  · rintro ⟨i, hi, rfl⟩
    have := List.mem_range.mp hi
    omega
  · intro h
    exact ⟨(t - b).toNat, List.mem_range.mpr (by omega), by omega⟩
theorem times_succ {b : Int} {n : Nat} : timesBE b (n + 1) = timesBE b n ++ [b + (n : Int)] := by
  unfold timesBE
  rw [List.range_succ, List.map_append]
  rfl
theorem leftTs_snoc {room : List Int} {rs : List Bw} {ts : List Int} {t : Int} : leftTs room rs (ts ++ [t]) = List.zipWith minI (leftTs room rs ts) (lessL room (netB room.length rs t)) := by
  unfold leftTs
  rw [List.foldl_append]
  rfl
theorem leftTs_len {room : List Int} {rs : List Bw} (ts : List Int) : (leftTs room rs ts).length = room.length := by
  have : ∀ (l : List Int) (acc : List Int), acc.length = room.length → (l.foldl (fun acc t => List.zipWith minI acc (lessL room (netB room.length rs t))) acc).length = room.length := by
    intro l
    induction l with
    | nil => exact fun _ h => h
    | cons t l ih =>
      intro acc h
      rw [List.foldl_cons]
      refine ih _ ?_
      rw [List.length_zipWith, h, less_len2, Nat.min_self]
  exact this ts room rfl
section
variable {room : List Int} {rs : List Bw} {ts : List Int} {j : Nat}
theorem left_facts (hj : j < room.length) : (leftTs room rs ts).getD j 0 ≤ room.getD j 0 ∧ (∀ t ∈ ts, (leftTs room rs ts).getD j 0 ≤ valJ room rs j t) ∧ ((leftTs room rs ts).getD j 0 = room.getD j 0 ∨ ∃ t ∈ ts, (leftTs room rs ts).getD j 0 = valJ room rs j t) := by
  have e1 := (fold_col (f := fun t => lessL room (netB room.length rs t)) (fun t => less_len2) hj ts room rfl).2
  have e2 : (leftTs room rs ts).getD j 0 = ts.foldl (fun x t => minI x ((lessL room (netB room.length rs t)).getD j 0)) (room.getD j 0) := e1
  obtain ⟨a1, a2, a3⟩ := min_fold (g := fun t => (lessL room (netB room.length rs t)).getD j 0) ts (room.getD j 0)
  rw [e2]
  refine ⟨a1, fun t ht => ?_, ?_⟩
  · have := a2 t ht
    rw [less_col hj] at this
    exact this
  · rcases a3 with h | ⟨t, ht, h⟩
    · exact .inl h
    · rw [less_col hj] at h
      exact .inr ⟨t, ht, h⟩
theorem left_at (nn : NN rs) (hj : j < room.length) {b : Int} (hb : b ∈ ts) : ∃ t ∈ ts, (leftTs room rs ts).getD j 0 = valJ room rs j t := by
  obtain ⟨a1, a2, a3⟩ := left_facts (rs := rs) (ts := ts) hj
  rcases a3 with h | h
  · refine ⟨b, hb, ?_⟩
    have h1 := a2 b hb
    have h2 := col_nn (j := j) (t := b) nn
    unfold valJ at h1 ⊢
    omega
  · exact h
theorem left_pos (nn : ∀ n ∈ room, 0 ≤ n) (fit : ∀ t, Fits room rs t) : ∀ n ∈ leftTs room rs ts, 0 ≤ n := fun n hn => by
  obtain ⟨j, hj⟩ := List.mem_iff_getElem?.mp hn
  have hlt : j < (leftTs room rs ts).length := (List.getElem?_eq_some_iff.mp hj).1
  rw [leftTs_len] at hlt
  have e : (leftTs room rs ts).getD j 0 = n := by
    rw [List.getD_eq_getElem?_getD, hj]
    rfl
  rw [← e]
  rcases (left_facts (rs := rs) (ts := ts) hlt).2.2 with h | ⟨t, _, h⟩
  · rw [h]
    exact getD_nn nn j
  · rw [h]
    have := fit t j hlt
    unfold valJ
    omega
theorem left_mono {us : List Int} (sub : ∀ t ∈ us, t ∈ ts) (hj : j < room.length) : (leftTs room rs ts).getD j 0 ≤ (leftTs room rs us).getD j 0 := by
  obtain ⟨a1, a2, _⟩ := left_facts (rs := rs) (ts := ts) hj
  rcases (left_facts (rs := rs) (ts := us) hj).2.2 with h | ⟨t, ht, h⟩
  · rw [h]; exact a1
  · rw [h]; exact a2 t (sub t ht)
end
theorem left_times {room : List Int} {rs : List Bw} {b : Int} {n : Nat} {ks : List Int} (nn : NN rs) (sr : Srt rs ks) (h : 0 < n) : (leastLeft room rs b (b + (n : Int)) (ks.zip (ks.drop 1))).getD room = leftTs room rs (timesBE b n) :=
  leftTs_eq nn sr (by omega) (times_mem.mpr (by omega)) (fun t ht => times_mem.mp ht) fun k _ h1 h2 => times_mem.mpr ⟨by omega, h2⟩
theorem slA_of {K : PySem.W.Frag} {H : Hp} {a : Addr} {xs : List V} {lo hi : Option Int} {Q : VK} (e : H a = some (.tup xs)) (q : ∀ p H', Same H H' → H' p = some (.tup (cutV xs lo hi)) → Q (.ref p) H') : rSlA K (.ref a) lo hi H Q := by
  refine ⟨a, xs, rfl, SqT.of e, fun w => q a H (Same.refl _) ?_, fun _ p np => q p _ (same_upd np) upd_same⟩
  rw [e]
  unfold cutV
  rw [w.1, w.2, List.drop_zero, Nat.sub_zero, List.take_length]
theorem catA_of {K : PySem.W.Frag} {H : Hp} {a b : Addr} {xs ys : List V} {Q : VK} (ea : H a = some (.tup xs)) (eb : H b = some (.tup ys)) (hz : xs.length + ys.length ≤ sizeLine) (q : ∀ p H', Same H H' → H' p = some (.tup (xs ++ ys)) → Q (.ref p) H') : rCatA K (.ref a) (.ref b) H Q := by
  refine ⟨a, b, xs, ys, rfl, rfl, SqT.of ea, SqT.of eb, hz, fun h => q b H (Same.refl _) ?_, fun _ h => q a H (Same.refl _) ?_, fun _ _ p np => q p _ (same_upd np) upd_same⟩
  · rw [eb, h]; rfl
  · rw [ea, h, List.append_nil]
theorem BGood.mono {Z Z' : List Str} {room : List Int} {rs : List Bw} (h : ∀ z ∈ Z, z ∈ Z') (g : BGood Z room rs) : BGood Z' room rs := ⟨g.nd, g.lt, g.len, g.nn, g.tm, g.fit, fun x hx => h _ (g.key x hx)⟩
theorem Both.fw {H H' : Hp} {Ts : List Addr} {C a dx m d mm pr rd : Addr} {Z : List Str} {room : List Int} {top wide : Int} {rs : List Bw} (b : Both H Ts C a dx m d mm pr rd Z room top wide rs) (f : Fw Ts H H') : Both H' Ts C a dx m d mm pr rd Z room top wide rs := by
  obtain ⟨h1, ⟨rows, es, M, E, e⟩, h3⟩ := b
  have t := h1.tabs
  exact ⟨h1.fw f, ⟨rows, es, ⟨f.obj t M.dict (fun _ z => by cases z), f.kt t _ _ M.room, f.obj t M.rows (fun _ z => by cases z), M.len1, M.len8, M.top0, M.top1, M.wid0, M.wid1, M.num, M.ne⟩, E.imp fun v r h => h.kt (f.kt t), e⟩, h3⟩
def Z11 : List Str := "zzz" :: namesN 20
theorem z11_ok : ∀ z ∈ Z11, PySem.PyData.strOk z = true ∧ z.length ≤ 8 := fun z hz => by
  rcases List.mem_cons.mp hz with h | h
  · rw [h]; decide +kernel
  · exact namesN_ok h
theorem zzz_no : ∀ z ∈ namesN 20, z ≠ "zzz" := by decide +kernel
def spByT (C : Addr) (Ts : List Addr) : Sp := fun vs H Q _ => ∃ (a dx m d mm pr rd : Addr) (Z : List Str) (room : List Int) (top wide : Int) (rs : List Bw) (b e : Int), vs = [.ref a, .ref mm, .int b, .int e] ∧ Both H Ts C a dx m d mm pr rd Z room top wide rs ∧ 0 ≤ b ∧ b < e ∧ e ≤ 2000000000 ∧
  ∀ p H', Same H H' → H p = none → H' p = some (.tup ((leftTs room rs (timesBE b (e - b).toNat)).map V.int)) → Q (.ref p) H'
def spJust (C : Addr) (Ts : List Addr) : Sp := fun vs H Q _ => ∃ (a dx m d mm pr rd pl : Addr) (room : List Int) (top wide : Int) (rs : List Bw) (b e : Int) (j : Nat), vs = [.ref a, .int b, .int e, .ref pl, .int (j : Int)] ∧ Both H Ts C a dx m d mm pr rd (namesN 20) room top wide rs ∧ 0 ≤ b ∧ b < e ∧ e ≤ 2000000000 ∧
  H pl = some (.tup ((leftTs room rs (timesBE b (e - b).toNat)).map V.int)) ∧ j < room.length ∧ ∀ H', Fw Ts H H' → Q (.bl true) H'
section
variable {P : Program} {w : World} {K : PySem.W.Frag} {mg : Str → Option Value} {base : Heap} {C : Addr}
set_option maxHeartbeats 2000000 in
theorem ok_byt {f fA fL fBL : Addr} {fd fdA fdL fdBL : FuncData} {k : Nat} {Ts : List Addr} (F : Fun K "_law_by_times" "_law_by_times" s_scKBT f fd) (X : Txt mg) (c : BCls K C)
    (GA : FnOk P w K mg base CX0 k fA fdA ["_law_found", "_law_due_here"] (spAlk6 3)) (mA : mg "_law_alike" = some (.ref fA)) (kA : PySem.W.keepIn K (.ref fA) = true) (bA : L2.Binds K fdA ["_law_found", "_law_due_here"] [])
    (GL : FnOk P w K mg base CX0 k fL fdL ["_law_m", "_law_time_here"] spMLoad) (mL : mg "_law_load" = some (.ref fL)) (kL : PySem.W.keepIn K (.ref fL) = true) (bL : L2.Binds K fdL ["_law_m", "_law_time_here"] [])
    (GBL : FnOk P w K mg base CX0 k fBL fdBL ["self", "time"] (spLoadAt K C)) (MBL : Meth K C "load_at" fBL) (bBL : L2.Binds K fdBL ["self", "time"] []) :
    FnOk P w K mg base CX0 (k + 1) f fd ["_law_book", "_law_m", "_law_begin", "_law_end"] (spByT C Ts) := by
  have cB := c.cls
  refine F.ok scKBT (fun vs H Q E h => ?_) (fun cdv A outer s H vs Q E hr h => ?_)
  · obtain ⟨a, dx, m, d, mm, pr, rd, Z, room, top, wide, rs, b, e, rfl, _⟩ := h
    rfl
  · obtain ⟨a, dx, m, d, mm, pr, rd, Z, room, top, wide, rs, b, e, rfl, bo, b0, be, e2, q⟩ := h
    refine ⟨_, (pss_cons (ps_set (i := 4) scKBT.nd rfl (.inl rfl) (pe_callTy call_list_of (by rfl) X.lst bt_list (pa_cons (pe_dget (hu_of hr) (pv 1) pe_str (fun _ _ => rfl)) pa_nil)))
      (C8.pss_cut (ps_for PassesOwn.never rfl (pi_range2 (by rfl) X.range (pa_cons (pv 2) (pa_cons (pv 3) pa_nil))) (pg_name (i := 5) scKBT.nd rfl (.inl rfl))
        (pss_cons (ps_set (i := 6) scKBT.nd rfl (.inl rfl) (pe_meth (pv 0) cB MBL GBL hr bBL .nil pass0 (pa_cons (pv 5) pa_nil)))
        (pss_cons (ps_if (pt_not (pt_val (pe_call GA hr (by rfl) mA kA bA .nil pass0 (pa_cons (pv 6) (pa_cons (pe_call GL hr (by rfl) mL kL bL .nil pass0 (pa_cons (pv 1) (pa_cons (pv 5) pa_nil))) pa_nil)))))
          (pss_one (ps_ret pe_non))
          pss_nil)
        (pss_one (ps_setLc (i := 4) (own := [("_law_a", 7), ("_law_b", 8), ("_law_c", 9)]) (g := (gTup K 3 (gCons (gName 7) (gCons (gName 8) (gCons (gName 9) gNil))))) (tt := tYes) rfl scKBT.nd rfl rfl (sw_true rfl rfl rfl (by decide +kernel)) (ZM.pi_zip3L (by rfl) X.zip (pa_cons (pv 4) (pa_cons (pe_dget (hu_of hr) (pv 1) pe_str (fun _ _ => rfl)) (pa_cons (pv 6) pa_nil)))) (blkOk_by (own := [("_law_a", 7), ("_law_b", 8), ("_law_c", 9)]) (N := n_scKBT) (sc := defScope s_scKBT) (by decide +kernel)) (fun _ _ _ _ _ => (pg_tup rfl (pgs_cons (pg_name (i := 7) scKBT.nd rfl (.inl rfl)) (pgs_cons (pg_name (i := 8) scKBT.nd rfl (.inl rfl)) (pgs_cons (pg_name (i := 9) scKBT.nd rfl (.inl rfl)) pgs_nil))))) (fun _ _ _ _ _ => pts_nil) (fun _ _ _ _ _ => (pe_callB (call_min2 rfl) (by rfl) X.min (by decide +kernel) (pa_cons (pv 7) (pa_cons (pe_op op_sub (pv 8) (pv 9)) pa_nil)))))))))
      (pss_one (ps_ret (pe_callTy call_tuple_of (by rfl) X.tup bt_tuple (pa_cons (pv 4) pa_nil)))))), ?_⟩
    obtain ⟨rows, es, M, hE, le, nk, eb⟩ := bo.deed
    obtain ⟨lv, ps, Bo, L⟩ := bo.bk.at_
    have g := bo.bk.good
    have lam : ∀ r ∈ es, r.am.length = room.length := fun r hr' => g.len (bwOf r) (by rw [← eb]; exact List.mem_map.mpr ⟨r, hr', rfl⟩)
    have l8 := M.len8
    refine ⟨_, rfl, mm, .ref pr, rfl, DGet.k (k := .inr "room") M.dict, pr, _, rfl, .inr (SqT.of M.room), fun ll nll => ?_⟩
    have s1 := same_upd (o := .lst (room.map V.int)) nll
    have e1 : upd H ll (.lst (room.map V.int)) ll = some (.lst (room.map V.int)) := upd_same
    generalize upd H ll (.lst (room.map V.int)) = H1 at s1 e1 ⊢
    refine ⟨fun σ H' => ∃ (l : Addr), σ[4]? = some (some (V.ref l)) ∧ Same H H' ∧ H' l = some (.lst ((leftTs room rs (timesBE b (e - b).toNat)).map V.int)), ?_, fun σ H' hm => ?_⟩
    · refine ⟨_, rfl, _, rfl, b, e, rfl, ⟨by omega, by omega, by omega, by omega⟩, ?_⟩
      refine for_range (lo := b) (n := (e - b).toNat) (fun i σ H' => ∃ (l : Addr) (y5 y6 : Option V), σ = [some (.ref a), some (.ref mm), some (.int b), some (.int e), some (.ref l), y5, y6, none, none, none] ∧ Same H H' ∧ H' l = some (.lst ((leftTs room rs (timesBE b i)).map V.int)))
        ⟨ll, none, none, rfl, s1, e1⟩ (fun i σ H6 hi p => ?_) (fun σ H6 p => ?_)
      · obtain ⟨l, y5, y6, rfl, s6, el6⟩ := p
        have Bo6 := Bo.same s6
        refine ⟨_, rfl, a, dx, _, rfl, Bo6.obj, rfl, _, rfl, a, dx, m, d, lv, ps, room, rs, b + (i : Int), rfl, Bo6, fun p4 H4 s4 np4 e4 => ?_⟩
        have s04 := s6.trans s4
        refine ⟨_, rfl, _, rfl, _, rfl, mm, pr, rd, room, top, wide, rows, es, b + (i : Int), rfl, M.same s04, hE.imp (fun v r h => h.same s04), by omega, lam, fun p5 H5 s5 np5 e5 => ?_⟩
        rw [eb] at e5
        refine ⟨_, _, rfl, al6_ints (s5 _ _ e4) e5 (by rw [netB_len]; omega), fun H7 s7 => ⟨true, rfl, iteF ?_⟩⟩
        have s07 := (s04.trans s5).trans s7
        have M7 := M.same s07
        have el7 := s7 _ _ (s5 _ _ (s4 _ _ el6))
        have ep7 := s7 _ _ (s5 _ _ e4)
        have lL := leftTs_len (room := room) (rs := rs) (timesBE b i)
        have tk : leftTs room rs (timesBE b (i + 1)) = List.zipWith minI (leftTs room rs (timesBE b i)) (lessL room (netB room.length rs (b + (i : Int)))) := by
          rw [times_succ]
          exact leftTs_snoc
        have lnet := netB_len room.length rs (b + (i : Int))
        generalize netB room.length rs (b + (i : Int)) = net at ep7 lnet tk
        generalize leftTs room rs (timesBE b i) = lf at el7 lL tk
        refine ⟨_, rfl, _, rfl, mm, .ref pr, rfl, DGet.k (k := .inr "room") M7.dict, _, rfl, l, pr, p4, _, _, _, rfl, SqL.of el7, SqT.of M7.room, SqT.of ep7, fun D3 nD3 => ?_⟩
        refine lc_it (ZM.walk_zip3L (by rw [List.length_map, List.length_map]; omega) (by rw [List.length_map, List.length_map]; omega)) (fun j H' => Same H7 H' ∧ H' D3 = some (.lst (((List.zipWith minI lf (lessL room net)).take j).map V.int)))
          ⟨same_upd nD3, upd_same⟩ (fun j H' _ p => ⟨SqL.of (p.1 _ _ el7), SqT.of (p.1 _ _ M7.room), SqT.of (p.1 _ _ ep7)⟩) (fun j v H8 H9 hj p y => ?_) (fun H8 p => ?_)
        · obtain ⟨T1, x1, x2, x3, rfl, nT, rfl, g1, g2, g3⟩ := y
          obtain ⟨z1, z2⟩ := p
          obtain ⟨x, hx, rfl⟩ := get_int g1
          obtain ⟨y, hy, rfl⟩ := get_int g2
          obtain ⟨c, hc, rfl⟩ := get_int g3
          have s9 : Same H8 (upd H8 T1 (.tup [.int x, .int y, .int c])) := same_upd nT
          have hj2 : j < lf.length := (List.getElem?_eq_some_iff.mp hx).1
          refine ⟨T1, [.int x, .int y, .int c], rfl, SqT.of upd_same, rfl, _, _, rfl, _, _, rfl, _, _, rfl, rfl, rfl, ?_⟩
          refine ⟨_, rfl, _, rfl, _, rfl, y, c, rfl, rfl, x, y - c, rfl, _, s9 _ _ z2, ?_, same_putA (z1.trans s9) nD3, ?_⟩
          · rw [List.length_map, List.length_take]
            exact small1000 (by omega)
          · unfold lessL
            rw [upd_same, List.take_add_one, List.getElem?_zipWith, List.getElem?_zipWith, hx, hy, hc, List.map_append]
            rfl
        · obtain ⟨z1, z2⟩ := p
          rw [List.take_of_length_le (by rw [List.length_zipWith, List.length_map]; exact Nat.min_le_left _ _), ← tk] at z2
          exact ⟨D3, _, _, rfl, s07.trans z1, z2⟩
      · obtain ⟨l, y5, y6, rfl, s6, el6⟩ := p
        exact ⟨l, rfl, s6, el6⟩
    · obtain ⟨l, e4, s6, el6⟩ := hm
      exact ⟨_, e4, l, _, rfl, .inl ⟨SqL.of el6, fun p np => q p _ (s6.trans (same_upd np)) (s6.free np) upd_same⟩⟩
set_option maxHeartbeats 2000000 in
theorem ok_just {f fT fBT : Addr} {fd fdT fdBT : FuncData} {k : Nat} {Ts : List Addr} (F : Fun K "_law_just_fits" "_law_just_fits" s_scKJF f fd) (X : Txt mg) (c : BCls K C)
    (GT : FnOk P w K mg base CX0 k fT fdT ["_law_book", "_law_deed_here"] (spTold Ts C)) (mT : mg "_law_told" = some (.ref fT)) (kT : PySem.W.keepIn K (.ref fT) = true) (bT : L2.Binds K fdT ["_law_book", "_law_deed_here"] [])
    (GBT : FnOk P w K mg base CX0 k fBT fdBT ["self"] (spTwin C)) (MBT : Meth K C "twin_book" fBT) (bBT : L2.Binds K fdBT ["self"] []) :
    FnOk P w K mg base CX0 (k + 1) f fd ["_law_book", "_law_begin", "_law_end", "_law_left", "_law_place"] (spJust C Ts) := by
  have cB := c.cls
  refine F.ok scKJF (fun vs H Q E h => ?_) (fun cdv A outer s H vs Q E hr h => ?_)
  · obtain ⟨a, dx, m, d, mm, pr, rd, pl, room, top, wide, rs, b, e, j, rfl, _⟩ := h
    rfl
  · obtain ⟨a, dx, m, d, mm, pr, rd, pl, room, top, wide, rs, b, e, j, rfl, bo, b0, be, e2, hpl, hj, q⟩ := h
    refine ⟨_, (pss_cons (ps_if (pt_cmpR (op_neD hr.units) (pe_call GT hr (by rfl) mT kT bT .nil pass0 (pa_cons (pe_meth0 (pv 0) cB MBT GBT hr bBT .nil pass0) (pa_cons (pe_tup (pa_cons pe_str (pa_cons pe_str (pa_cons (pv 1) (pa_cons (pv 2) (pa_cons (pv 3) pa_nil)))))) pa_nil))) (pe_tup (pa_cons pe_str (pa_cons pe_non pa_nil))) (nomark _))
        (pss_one (ps_ret pe_bl))
        pss_nil)
      (pss_cons (ps_set (i := 5) scKJF.nd rfl (.inl rfl) (pe_op op_catA (pe_op op_catA (pe_slice sl_tupA (pv 3) po_none (po_some (pv 4))) (pe_tup (pa_cons (pe_op op_add (pe_ix ix_tup (pv 3) (pv 4) (fun _ _ => rfl)) pe_int) pa_nil))) (pe_slice sl_tupA (pv 3) (po_some (pe_op op_add (pv 4) pe_int)) po_none)))
      (pss_cons (ps_if (pt_cmpR op_gt (pe_ix ix_tup (pv 5) (pv 4) (fun _ _ => rfl)) (pe_op op_pow pe_int pe_int) (nomark _))
        (pss_one (ps_ret pe_bl))
        pss_nil)
      (pss_one (ps_ret (pe_cmpR op_eq (pe_ix ix_tup (pe_call GT hr (by rfl) mT kT bT .nil pass0 (pa_cons (pe_meth0 (pv 0) cB MBT GBT hr bBT .nil pass0) (pa_cons (pe_tup (pa_cons pe_str (pa_cons pe_str (pa_cons (pv 1) (pa_cons (pv 2) (pa_cons (pv 5) pa_nil)))))) pa_nil))) pe_int (fun _ _ => rfl)) pe_str (nomark _))))))), ?_⟩
    have g := bo.bk.good
    have tH := bo.bk.tabs
    have l20 := good_len g
    rw [namesN_len] at l20
    have lsl := leftTs_len (room := room) (rs := rs) (timesBE b (e - b).toNat)
    have lsp := left_pos (ts := timesBE b (e - b).toNat) bo.bk.nn g.fit
    have lsle : ∀ t, b ≤ t → t < e → ∀ i, i < room.length → (leftTs room rs (timesBE b (e - b).toNat)).getD i 0 ≤ valJ room rs i t := fun t h1 h2 i hi => (left_facts hi).2.1 t (times_mem.mpr ⟨h1, by omega⟩)
    obtain ⟨tm, htm, etm⟩ := left_at (ts := timesBE b (e - b).toNat) g.nn hj (times_mem.mpr ⟨Int.le_refl b, by omega⟩)
    have mtm := times_mem.mp htm
    generalize leftTs room rs (timesBE b (e - b).toNat) = ls at hpl lsl lsp lsle etm
    have l8 : room.length ≤ 20 := by
      obtain ⟨lv, ds, B, L⟩ := bo.bk.at_
      exact B.r20
    have nozz : ("zzz" : Str) ∉ keysB rs := fun hz => by
      obtain ⟨x, hx, ex⟩ := List.mem_map.mp hz
      exact zzz_no _ (g.key x hx) ex
    -- a twin of it
    have twin : ∀ (H1 : Hp), Fw Ts H H1 → ∃ lv ds, BookAt H1 C a dx m d lv ds room rs ∧ ∀ a2 dx2 d2 H2, Same H1 H2 → H1 a2 = none → H1 d2 = none → H2 a2 = some (.ins C dx2 (flds m d2 lv)) → H2 d2 = some (.dK ds) →
        Bk H2 Ts C a2 dx2 m d2 Z11 room rs ∧ H a2 = none ∧ H d2 = none := fun H1 f1 => by
      obtain ⟨⟨lv, ds, B, L⟩, h3, h4, h5, h6⟩ := bo.bk.fw f1
      refine ⟨lv, ds, B, fun a2 dx2 d2 H2 s2 na nd ea ed => ?_⟩
      have B2 := B.same s2
      exact ⟨⟨⟨lv, ds, ⟨ea, B2.rm, ed, B2.prs, B.nd, B.few, B.ok, B.r1, B.r20⟩, L.same s2⟩, h3.mono fun z hz => List.mem_cons_of_mem _ hz, (Fw.same h4 s2).tabs, h5, z11_ok⟩, f1.free tH na, f1.free tH nd⟩
    have goes : ∀ {H1 H2 : Hp} {a2 dx2 d2 : Addr} {rs' : List Bw}, Fw Ts H H1 → H a2 = none → H d2 = none → Kp (a2 :: d2 :: Ts) H1 H2 → Bk H2 Ts C a2 dx2 m d2 Z11 room rs' → Fw Ts H H2 := fun {H1 H2 a2 dx2 d2 rs'} f1 na nd k bk => f1.fresh (L := [a2, d2]) k (fun x hx => by
      rcases List.mem_cons.mp hx with z | z
      · rw [z]; exact na
      · rw [List.mem_singleton.mp z]; exact nd) bk.tabs
    -- just so much is let
    obtain ⟨lv, ds, B, tw⟩ := twin H (Fw.refl tH)
    refine ⟨_, rfl, a, dx, _, rfl, B.obj, rfl, a, dx, m, d, lv, ds, room, rs, rfl, B, fun a2 dx2 d2 H1 s1 na2 nd2 ea ed => ?_⟩
    obtain ⟨bk1, na, nd⟩ := tw a2 dx2 d2 H1 s1 na2 nd2 ea ed
    refine ⟨_, rfl, _, rfl, _, rfl, by show 5 ≤ sizeLine; decide, fun pd npd => ?_⟩
    have s2 := s1.trans (same_upd (o := .tup [V.str "put", .str "zzz", .int b, .int e, .ref pl]) npd)
    have epd : upd H1 pd (.tup [V.str "put", .str "zzz", .int b, .int e, .ref pl]) pd = some (.tup [V.str "put", .str "zzz", .int b, .int e, .ref pl]) := upd_same
    have bk2 := bk1.same (same_upd (o := .tup [V.str "put", .str "zzz", .int b, .int e, .ref pl]) npd)
    generalize upd H1 pd (.tup [V.str "put", .str "zzz", .int b, .int e, .ref pl]) = H2 at s2 epd bk2 ⊢
    have f2 := Fw.same tH s2
    refine ⟨a2, dx2, m, d2, pd, Z11, room, rs, .put ⟨"zzz", b, e, ls⟩, rfl, bk2, by omega, ⟨pl, epd, s2 _ _ hpl⟩, ⟨be, lsl, lsp, b0, e2, List.mem_cons_self⟩, fun t w1 o1 rs1 H3 due nt out kp bk3 => ?_⟩
    have due' : DueR room rs (.put ⟨"zzz", b, e, ls⟩) "told" .no (putR rs ⟨"zzz", b, e, ls⟩) := .inr ⟨nozz, none, fun u h1 h2 => (more_fits lsl).mpr (fun i hi => by
      have := lsle u h1 h2 i hi
      unfold valJ at this
      show col i rs u + ls.getD i 0 ≤ _
      omega), rfl, rfl, rfl⟩
    obtain ⟨rfl, rfl, rfl⟩ := dueR_uniq g.nd due due'
    have f3 := goes f2 na nd kp bk3
    have out' : H3 t = some (.tup [.str "told", .non]) := out
    refine ⟨by show 2 ≤ sizeLine; decide, fun T nT => ?_⟩
    have s4 := same_upd (o := .tup [V.str "told", .non]) nT
    have eT : upd H3 T (.tup [V.str "told", .non]) T = some (.tup [V.str "told", .non]) := upd_same
    generalize upd H3 T (.tup [V.str "told", .non]) = H4 at s4 eT ⊢
    have f4 := f3.then s4
    have shp : SeqAt.shaped (.tuple [.str "told", .none]) = true := by decide +kernel
    refine ⟨_, _, .tup (SqT.of (s4 _ _ out')) (.cons (.str _) (.cons .non .nil)), .tup (SqT.of eT) (.cons (.str _) (.cons .non .nil)), shp, shp, false, ?_, iteF ?_⟩
    · rw [show PyData.eqv (.tuple [.str "told", .none]) (.tuple [.str "told", .none]) = true by decide +kernel]
      rfl
    -- one more in a ware
    have hjl : j < ls.length := by omega
    have hpl4 : H4 pl = some (.tup (ls.map V.int)) := f4.kt tH _ _ hpl
    refine ⟨_, rfl, _, rfl, (j : Int), rfl, slA_of hpl4 fun p5 H5 s5 e5 => ?_⟩
    rw [cut_take] at e5
    have hpl5 := s5 _ _ hpl4
    refine ⟨_, rfl, _, rfl, pl, _, (j : Int), .int ls[j], rfl, rfl, SqT.of hpl5, atI_nat (by rw [List.getElem?_map, List.getElem?_eq_getElem hjl]; rfl), _, 1, rfl, rfl, by show 1 ≤ sizeLine; decide, fun T6 nT6 => ?_⟩
    have s6 := same_upd (o := .tup [V.int (ls[j] + 1)]) nT6
    have eT6 : upd H5 T6 (.tup [V.int (ls[j] + 1)]) T6 = some (.tup [V.int (ls[j] + 1)]) := upd_same
    change rCatA K (.ref p5) (.ref T6) (upd H5 T6 (.tup [V.int (ls[j] + 1)])) _
    generalize upd H5 T6 (.tup [V.int (ls[j] + 1)]) = H6 at s6 eT6 ⊢
    refine catA_of (s6 _ _ e5) eT6 ?_ fun p7 H7 s7 e7 => ?_
    · rw [List.length_take, List.length_map]
      show min j ls.length + 1 ≤ sizeLine
      exact Nat.le_of_lt (small63 (by omega))
    have hpl7 := s7 _ _ (s6 _ _ hpl5)
    refine ⟨_, rfl, _, rfl, _, 1, rfl, rfl, _, rfl, ?_⟩
    dsimp only [tNoPart]
    refine slA_of hpl7 fun p8 H8 s8 e8 => ?_
    have e8' : H8 p8 = some (.tup ((ls.map V.int).drop (j + 1))) := by
      rw [e8, show ((j : Int) + 1) = ((j + 1 : Nat) : Int) from rfl, cut_drop]
    refine catA_of (s8 _ _ e7) e8' ?_ fun p9 H9 s9 e9 => ?_
    · rw [List.length_append, List.length_take, List.length_drop, List.length_map]
      show min j ls.length + 1 + (ls.length - (j + 1)) ≤ sizeLine
      exact Nat.le_of_lt (small63 (by omega))
    have eset : (ls.map V.int).take j ++ [V.int (ls[j] + 1)] ++ (ls.map V.int).drop (j + 1) = (ls.set j (ls[j] + 1)).map V.int := by
      rw [List.map_set, List.set_eq_take_append_cons_drop, if_pos (by rw [List.length_map]; exact hjl), List.append_assoc]
      rfl
    rw [eset] at e9
    have s49 := (((s5.trans s6).trans s7).trans s8).trans s9
    have f9 := f4.then s49
    have lset : (ls.set j (ls[j] + 1)).length = room.length := by rw [List.length_set, lsl]
    have gset : (ls.set j (ls[j] + 1))[j]? = some (ls[j] + 1) := by rw [List.getElem?_set_self hjl]
    refine ⟨_, rfl, _, rfl, p9, _, (j : Int), .int (ls[j] + 1), rfl, rfl, SqT.of e9, atI_nat (by rw [List.getElem?_map, gset]; rfl), 10, 12, rfl, rfl, ⟨by decide, by decide, by decide⟩, _, _, rfl, rfl, _, rfl, ite2 (fun gg => q _ f9) (fun gg => ?_)⟩
    obtain ⟨lv, ds, B, tw⟩ := twin H9 f9
    refine ⟨_, rfl, a, dx, _, rfl, B.obj, rfl, a, dx, m, d, lv, ds, room, rs, rfl, B, fun a2 dx2 d2 H10 s10 na2 nd2 ea ed => ?_⟩
    obtain ⟨bk10, na, nd⟩ := tw a2 dx2 d2 H10 s10 na2 nd2 ea ed
    refine ⟨_, rfl, _, rfl, _, rfl, by show 5 ≤ sizeLine; decide, fun pd npd => ?_⟩
    have s11 := s10.trans (same_upd (o := .tup [V.str "put", .str "zzz", .int b, .int e, .ref p9]) npd)
    have epd : upd H10 pd (.tup [V.str "put", .str "zzz", .int b, .int e, .ref p9]) pd = some (.tup [V.str "put", .str "zzz", .int b, .int e, .ref p9]) := upd_same
    have bk11 := bk10.same (same_upd (o := .tup [V.str "put", .str "zzz", .int b, .int e, .ref p9]) npd)
    generalize upd H10 pd (.tup [V.str "put", .str "zzz", .int b, .int e, .ref p9]) = H11 at s11 epd bk11 ⊢
    have f11 := f9.then s11
    have lspos : ∀ n ∈ ls.set j (ls[j] + 1), (0 : Int) ≤ n := fun n hn => by
      rcases List.mem_or_eq_of_mem_set hn with h | h
      · exact lsp n h
      · have := lsp _ (List.getElem_mem hjl)
        omega
    refine ⟨a2, dx2, m, d2, pd, Z11, room, rs, .put ⟨"zzz", b, e, ls.set j (ls[j] + 1)⟩, rfl, bk11, by omega, ⟨p9, epd, s11 _ _ e9⟩, ⟨be, lset, lspos, b0, e2, List.mem_cons_self⟩, fun t w1 o1 rs1 H12 due nt out kp bk12 => ?_⟩
    have f12 := goes f11 na nd kp bk12
    have over : moreAt room rs (ls.set j (ls[j] + 1)) tm = true := by
      cases hm : moreAt room rs (ls.set j (ls[j] + 1)) tm with
      | true => rfl
      | false =>
        have h1 := (more_fits lset).mp hm j hj
        have h2 : (ls.set j (ls[j] + 1)).getD j 0 = ls[j] + 1 := by
          rw [List.getD_eq_getElem?_getD, gset]
          rfl
        have h3 : ls.getD j 0 = ls[j] := by
          rw [List.getD_eq_getElem?_getD, List.getElem?_eq_getElem hjl]
          rfl
        rw [h2] at h1
        rw [h3] at etm
        unfold valJ at etm
        omega
    rcases due with ⟨hz, _⟩ | ⟨_, fo, hf, hk⟩
    · exact absurd hz nozz
    cases fo with
    | none =>
      have := hf tm mtm.1 (by show tm < e; omega)
      rw [over] at this
      cases this
    | some t1 =>
      obtain ⟨rfl, rfl, rfl⟩ := hk
      have out' : H12 t = some (.tup [.str "TooMuch", .int t1]) := out
      exact ⟨t, _, 0, .str "TooMuch", rfl, rfl, SqT.of out', rfl, rfl, by rw [decide_eq_true rfl]; exact q _ f12⟩
end
section
variable {H H' : Hp} {Ts : List Addr} {C a dx m d mm pr rd : Addr} {Z : List Str} {room : List Int} {top wide : Int} {rs : List Bw}
/-- what is left over was kept -/
theorem Bk.lefts {l : Addr} {ls : List Addr} {ks : List Int} (b : Bk H Ts C a dx m d Z room rs) (k : Kp [a] H H') (e : H' a = some (.ins C dx (flds m d (.ref l)))) (el : H' l = some (.lst (ls.map V.ref))) (sr : Srt rs ks) (p : Paired (LfAt room rs H') ls (ks.zip (ks.drop 1))) : Bk H' Ts C a dx m d Z room rs := by
  obtain ⟨⟨lv, ps, B, L⟩, h3, h4, h5, h6⟩ := b
  have off : ∀ {x : Addr} {o : HO}, H x = some o → (∀ C dx fs, o ≠ .ins C dx fs) → H' x = some o := fun {x o} g n => k _ _ (fun z => by
    rw [List.mem_singleton.mp z, B.obj] at g
    exact n _ _ _ (Option.some.inj g).symm) g
  have kt : KTu H H' := fun x xs g => off g fun _ _ _ z => by cases z
  refine ⟨⟨.ref l, ps, ⟨e, kt _ _ B.rm, off B.en (fun _ _ _ z => by cases z), B.prs.mono fun _ _ x => x.kt kt, B.nd, B.few, B.ok, B.r1, B.r20⟩, .inr ⟨l, ls, ks, rfl, el, sr, p⟩⟩, h3, fun T hT => ?_, h5, h6⟩
  obtain ⟨ps', t1, t2⟩ := h4 T hT
  exact ⟨ps', off t1 (fun _ _ _ z => by cases z), t2⟩
theorem MAt.ins {rows : List (Str × V)} {fs : List (Str × V)} (e : H a = some (.ins C dx fs)) (k : Kp [a] H H') (M : MAt H mm pr rd room top wide rows) : MAt H' mm pr rd room top wide rows ∧ KTu H H' := by
  have off : ∀ {x : Addr} {o : HO}, H x = some o → (∀ C dx fs, o ≠ .ins C dx fs) → H' x = some o := fun {x o} g n => k _ _ (fun z => by
    rw [List.mem_singleton.mp z, e] at g
    exact n _ _ _ (Option.some.inj g).symm) g
  exact ⟨⟨off M.dict (fun _ _ _ z => by cases z), off M.room (fun _ _ _ z => by cases z), off M.rows (fun _ _ _ z => by cases z), M.len1, M.len8, M.top0, M.top1, M.wid0, M.wid1, M.num, M.ne⟩, fun x xs g => off g fun _ _ _ z => by cases z⟩
end
theorem any_lt : ∀ {xs ys : List Int}, (∀ j, j < ys.length → ys.getD j 0 ≤ xs.getD j 0) → (List.zipWith (fun a c : Int => decide (a < c)) xs ys).any _root_.id = false
  | [], _, _ => rfl
  | _ :: _, [], _ => rfl
  | x :: xs, y :: ys, h => by
    have h0 : y ≤ x := h 0 (by simp)
    have ih := any_lt (xs := xs) (ys := ys) fun j hj => h (j + 1) (by simpa using hj)
    rw [List.zipWith_cons_cons, List.any_cons, ih, decide_eq_false (by omega)]
    rfl
abbrev s_scKLaw : Stmt := topS 54
abbrev n_scKLaw : List Str := ["_law_script", "_law_m", "_law_book", "_law_k", "_law_box_here", "_law_begin", "_law_end", "_law_left", "_law_inner", "_law_one", "_law_other"]
theorem scKLaw : FnScope n_scKLaw ["_law_script"] (defScope s_scKLaw) := ⟨rfl, rfl, rfl, by decide +kernel, rfl, by decide +kernel, by decide +kernel⟩
section
variable {P : Program} {w : World} {K : PySem.W.Frag} {mg : Str → Option Value} {base : Heap} {C : Addr}
set_option maxHeartbeats 4000000 in
theorem ok_law {f fI fB fK fT fF fSP fY fL fBO fJ : Addr} {fd fdI fdB fdK fdT fdF fdSP fdY fdL fdBO fdJ : FuncData} {k : Nat} {Ts : List Addr} (F : Fun K "law" "law" s_scKLaw f fd) (X : Txt mg) (c : BCls K C) (mk : Mk K C fI) (mBook : mg "Book" = some (.ref C))
    (GI : FnOk P w K mg base CX0 k fI fdI ["self", "room"] (spBInit C)) (bI : L2.Binds K fdI ["self", "room"] [])
    (GB : FnOk P w K mg base CX0 (k + 1) fB fdB ["_law_script", "_law_k"] (spBox2 K)) (mB : mg "_law_box" = some (.ref fB)) (kB : PySem.W.keepIn K (.ref fB) = true) (bB : L2.Binds K fdB ["_law_script", "_law_k"] [])
    (GK : FnOk P w K mg base CX0 (k + 1) fK fdK ["_law_box_here"] spKeeping) (mK : mg "_law_keeping" = some (.ref fK)) (kK : PySem.W.keepIn K (.ref fK) = true) (bK : L2.Binds K fdK ["_law_box_here"] [])
    (GT : FnOk P w K mg base CX0 (k + 1) fT fdT ["_law_box_here", "_law_many"] spTake2) (mT : mg "_law_take" = some (.ref fT)) (kT : PySem.W.keepIn K (.ref fT) = true) (bT : L2.Binds K fdT ["_law_box_here", "_law_many"] [])
    (GF : FnOk P w K mg base CX0 (k + 1) fF fdF ["_law_book", "_law_m", "_law_box_here", "_law_turns", "_law_many"] (spFilled Ts C)) (mF : mg "_law_filled" = some (.ref fF)) (kF : PySem.W.keepIn K (.ref fF) = true) (bF : L2.Binds K fdF ["_law_book", "_law_m", "_law_box_here", "_law_turns", "_law_many"] [])
    (GSP : FnOk P w K mg base CX0 (k + 1) fSP fdSP ["_law_box_here", "_law_m"] spSpan) (mSP : mg "_law_span" = some (.ref fSP)) (kSP : PySem.W.keepIn K (.ref fSP) = true) (bSP : L2.Binds K fdSP ["_law_box_here", "_law_m"] [])
    (GY : FnOk P w K mg base CX0 (k + 1) fY fdY ["_law_book", "_law_m", "_law_begin", "_law_end"] (spByT C Ts)) (mY : mg "_law_by_times" = some (.ref fY)) (kY : PySem.W.keepIn K (.ref fY) = true) (bY : L2.Binds K fdY ["_law_book", "_law_m", "_law_begin", "_law_end"] [])
    (GL : FnOk P w K mg base CX0 (k + 1) fL fdL ["_law_found", "_law_due_here"] (spAlk6 3)) (mL : mg "_law_alike" = some (.ref fL)) (kL : PySem.W.keepIn K (.ref fL) = true) (bL : L2.Binds K fdL ["_law_found", "_law_due_here"] [])
    (GBO : FnOk P w K mg base CX0 (k + 1) fBO fdBO ["self", "begin", "end"] (spLOver K C)) (MBO : Meth K C "left_over" fBO) (bBO : L2.Binds K fdBO ["self", "begin", "end"] [])
    (GJ : FnOk P w K mg base CX0 (k + 1) fJ fdJ ["_law_book", "_law_begin", "_law_end", "_law_left", "_law_place"] (spJust C Ts)) (mJ : mg "_law_just_fits" = some (.ref fJ)) (kJ : PySem.W.keepIn K (.ref fJ) = true) (bJ : L2.Binds K fdJ ["_law_book", "_law_begin", "_law_end", "_law_left", "_law_place"] []) (mAny : mg "any" = none) :
    FnOk P w K mg base CX0 (k + 1 + 1) f fd ["_law_script"] (spLaw K Ts) := by
  have cB := c.cls
  refine F.ok scKLaw (fun vs H Q E h => ?_) (fun cdv A outer s H vs Q E hr h => ?_)
  · obtain ⟨sa, ns, rfl, _⟩ := h
    rfl
  · obtain ⟨sa, ns, rfl, hS, hl, tH, q⟩ := h
    refine ⟨_, (pss_cons (ps_set (i := 1) scKLaw.nd rfl (.inl rfl) (pe_call GK hr (by rfl) mK kK bK .nil pass0 (pa_cons (pe_call GB hr (by rfl) mB kB bB .nil pass0 (pa_cons (pv 0) (pa_cons (pe_callB call_len_seq (by rfl) X.len PySem.boot_len (pa_cons (pv 0) pa_nil)) pa_nil))) pa_nil)))
      (pss_cons (ps_dput (hu_of hr) (pv 1) pe_str (pe_callB (call_min2 rfl) (by rfl) X.min (by decide +kernel) (pa_cons pe_int (pa_cons (pe_dget (hu_of hr) (pv 1) pe_str (fun _ _ => rfl)) pa_nil))) rfl)
      (pss_cons (ps_set (i := 2) scKLaw.nd rfl (.inl rfl) (pe_make mk GI hr (by rfl) mBook bI .nil pass0 (pa_cons (pe_dget (hu_of hr) (pv 1) pe_str (fun _ _ => rfl)) pa_nil)))
      (C8.pss_cut (ps_for PassesOwn.never rfl (pi_range1 (by rfl) X.range (pa_cons (pe_callB (call_max2 rfl) (by rfl) X.max (by decide +kernel) (pa_cons pe_int (pa_cons (pe_callB (call_min2 rfl) (by rfl) X.min (by decide +kernel) (pa_cons (pe_callB call_len_seq (by rfl) X.len PySem.boot_len (pa_cons (pv 0) pa_nil)) (pa_cons pe_int pa_nil))) pa_nil))) pa_nil)) (pg_name (i := 3) scKLaw.nd rfl (.inl rfl))
        (pss_cons (ps_set (i := 4) scKLaw.nd rfl (.inl rfl) (pe_call GB hr (by rfl) mB kB bB .nil pass0 (pa_cons (pv 0) (pa_cons (pv 3) pa_nil))))
        (pss_cons (ps_if (pt_not (pt_val (pe_call GF hr (by rfl) mF kF bF .nil pass0 (pa_cons (pv 2) (pa_cons (pv 1) (pa_cons (pv 4) (pa_cons (pe_op op_add pe_int (pe_callTy call_int1 (by rfl) X.int bt_int (pa_cons (pe_cmpR op_lt (pe_callB call_lenD (by rfl) X.len PySem.boot_len (pa_cons (pe_dget (hu_of hr) (pv 1) pe_str (fun _ _ => rfl)) pa_nil)) pe_int (nomark _)) pa_nil))) (pa_cons pe_int pa_nil))))))))
          (pss_one (ps_ret pe_bl))
          pss_nil)
        (pss_cons (ps_asg (pe_call GSP hr (by rfl) mSP kSP bSP .nil pass0 (pa_cons (pv 4) (pa_cons (pv 1) pa_nil))) (pg_tup rfl (pgs_cons (pg_name (i := 5) scKLaw.nd rfl (.inl rfl)) (pgs_cons (pg_name (i := 6) scKLaw.nd rfl (.inl rfl)) pgs_nil))))
        (pss_cons (ps_set (i := 7) scKLaw.nd rfl (.inl rfl) (pe_call GY hr (by rfl) mY kY bY .nil pass0 (pa_cons (pv 2) (pa_cons (pv 1) (pa_cons (pv 5) (pa_cons (pv 6) pa_nil))))))
        (pss_cons (ps_if (PW.pt (pw_or (pt_cmpR op_isN (pv 7) pe_non (nomark _)) (pw_or1 (pt_not (pt_val (pe_call GL hr (by rfl) mL kL bL .nil pass0 (pa_cons (pe_meth (pv 2) cB MBO GBO hr bBO .nil pass0 (pa_cons (pv 5) (pa_cons (pv 6) pa_nil))) (pa_cons (pv 7) pa_nil))))))))
          (pss_one (ps_ret pe_bl))
          pss_nil)
        (pss_cons (ps_if (pt_not (pt_val (pe_call GJ hr (by rfl) mJ kJ bJ .nil pass0 (pa_cons (pv 2) (pa_cons (pv 5) (pa_cons (pv 6) (pa_cons (pv 7) (pa_cons (pe_call GT hr (by rfl) mT kT bT .nil pass0 (pa_cons (pv 4) (pa_cons (pe_callB call_len_seq (by rfl) X.len PySem.boot_len (pa_cons (pv 7) pa_nil)) pa_nil))) pa_nil))))))))
          (pss_one (ps_ret pe_bl))
          pss_nil)
        (pss_cons (ps_set (i := 8) scKLaw.nd rfl (.inl rfl) (pe_meth (pv 2) cB MBO GBO hr bBO .nil pass0 (pa_cons (pe_op op_add (pv 5) (pe_call GT hr (by rfl) mT kT bT .nil pass0 (pa_cons (pv 4) (pa_cons (pe_op op_sub (pv 6) (pv 5)) pa_nil)))) (pa_cons (pv 6) pa_nil))))
        (pss_one (ps_if (pt_val (pe_callB (cr_any rfl) (by rfl) mAny (by decide +kernel) (pa_cons (pe_lc (own := [("_law_one", 9), ("_law_other", 10)]) (g := (gTup K 2 (gCons (gName 9) (gCons (gName 10) gNil)))) (tt := tYes) rfl scKLaw.nd (RZ.pi_zipA (by rfl) X.zip (pa_cons (pv 8) (pa_cons (pv 7) pa_nil))) (blkOk_by (own := [("_law_one", 9), ("_law_other", 10)]) (N := n_scKLaw) (sc := defScope s_scKLaw) (by decide +kernel)) (fun _ _ _ _ _ => (pg_tup rfl (pgs_cons (pg_name (i := 9) scKLaw.nd rfl (.inl rfl)) (pgs_cons (pg_name (i := 10) scKLaw.nd rfl (.inl rfl)) pgs_nil)))) (fun _ _ _ _ _ => pts_nil) (fun _ _ _ _ _ => (pe_cmpR op_lt (pv 9) (pv 10) (nomark _)))) pa_nil)))
          (pss_one (ps_ret pe_bl))
          pss_nil))))))))))
      (pss_one (ps_ret pe_bl)))))), ?_⟩
    refine ⟨_, rfl, _, rfl, sa, _, rfl, .inl hS, sa, ns, ns.length, by rw [List.length_map]; rfl, hS, fun b0 xs0 nb0 bx0 => ?_⟩
    have s1 := same_upd (o := .lst xs0) nb0
    have B1 : Bt (upd H b0 (.lst xs0)) b0 := ⟨xs0, upd_same, bx0⟩
    generalize upd H b0 (.lst xs0) = H1 at s1 B1 ⊢
    refine ⟨b0, rfl, B1, fun mm pr rd room top wide H2 M2 k2 B2 nmm npr nrd => ?_⟩
    have f2 : Fw Ts H H2 := (Fw.same tH s1).box tH nb0 k2
    have nmmH : H mm = none := s1.free nmm
    refine ⟨_, rfl, mm, .int wide, rfl, DGet.k (k := .inr "wide") M2.dict, 40, wide, rfl, _, rfl, mm, _, rfl, DPut.k (k := (Sum.inr "wide" : Key)) M2.dict (by show 4 < sizeLine; decide), ?_⟩
    have hput : putK [((Sum.inr "room" : Key), V.ref pr), (.inr "top", .int top), (.inr "wide", .int wide), (.inr "rows", .ref rd)] (Sum.inr "wide" : Key) (.int (if wide < 40 then wide else 40)) = [(.inr "room", .ref pr), (.inr "top", .int top), (.inr "wide", .int (if wide < 40 then wide else 40)), (.inr "rows", .ref rd)] := rfl
    rw [hput]
    have ktx : KTu H2 (upd H2 mm (.dK [(.inr "room", .ref pr), (.inr "top", .int top), (.inr "wide", .int (if wide < 40 then wide else 40)), (.inr "rows", .ref rd)])) := kt_put M2.dict (fun xs z => by cases z)
    have M2x : MAt (upd H2 mm (.dK [(.inr "room", .ref pr), (.inr "top", .int top), (.inr "wide", .int (if wide < 40 then wide else 40)), (.inr "rows", .ref rd)])) mm pr rd room top (if wide < 40 then wide else 40) [] := by
      refine ⟨upd_same, ktx _ _ M2.room, ?_, M2.len1, M2.len8, M2.top0, M2.top1, ?_, ?_, M2.num, M2.ne⟩
      · rw [upd_ne M2.ne]
        exact M2.rows
      · have := M2.wid0
        split <;> omega
      · have := M2.wid1
        split <;> omega
    have f2x := f2.put tH (o := .dK [(.inr "room", .ref pr), (.inr "top", .int top), (.inr "wide", .int (if wide < 40 then wide else 40)), (.inr "rows", .ref rd)]) nmmH
    have mb : mm ≠ b0 := fun z => by
      obtain ⟨xs, g1, _⟩ := B2
      rw [← z, M2.dict] at g1
      cases g1
    have B2x : Bt (upd H2 mm (.dK [(.inr "room", .ref pr), (.inr "top", .int top), (.inr "wide", .int (if wide < 40 then wide else 40)), (.inr "rows", .ref rd)])) b0 := B2.put (H0 := H) mb
    clear M2 f2 B2 k2 ktx
    generalize upd H2 mm (.dK [(.inr "room", .ref pr), (.inr "top", .int top), (.inr "wide", .int (if wide < 40 then wide else 40)), (.inr "rows", .ref rd)]) = H2x at M2x f2x B2x ⊢
    generalize (if wide < 40 then wide else 40) = widex at M2x
    have M2 := M2x
    have f2 := f2x
    have B2 := B2x
    refine ⟨_, rfl, mm, .ref pr, rfl, DGet.k (k := .inr "room") M2.dict, fun a dx na ndx dxa => ?_⟩
    refine ⟨a, dx, pr, rfl, upd_same, fun d H3 k3 ea nd ed => ⟨rfl, ?_⟩⟩
    obtain ⟨s3, bo3, nd0⟩ := both_new (Ts := Ts) (wide := widex) (Z := namesN 20) M2 f2.tabs (fun z hz => namesN_ok hz) na ndx dxa k3 ea nd ed
    have f3 := f2.then s3
    have B3 := B2.same s3
    have fa : H a = none := f2.free tH na
    have fd0 : H d = none := f2.free tH nd0
    have fr : H rd = none := s1.free nrd
    obtain ⟨n, hn, n63⟩ := range_63 (ns.map V.int).length
    refine ⟨fun σ H' => True, ?_, fun σ H' _ => q _⟩
    refine ⟨_, rfl, sa, _, rfl, .inl (f3.seqL tH hS), _, 63, rfl, 6, _, rfl, (n : Int), congrArg (fun z => [V.int z]) hn, by omega, by omega, ?_⟩
    rw [Int.toNat_natCast]
    refine for_range (lo := 0) (n := n) (fun i σ H' => ∃ (y3 y4 y5 y6 y7 y8 : Option V) (rs : List Bw), σ = [some (.ref sa), some (.ref mm), some (.ref a), y3, y4, y5, y6, y7, y8, none, none] ∧ Fw Ts H H' ∧ Both H' Ts C a dx pr d mm pr rd (namesN 20) room top widex rs)
      ⟨_, _, _, _, _, _, [], rfl, f3, bo3⟩ (fun i σ H6 hi p => ?_) (fun σ H6 p => trivial)
    obtain ⟨y3, y4, y5, y6, y7, y8, rs, rfl, f6, bo6⟩ := p
    refine ⟨_, rfl, _, rfl, sa, ns, i, by rw [Int.zero_add]; rfl, f6.seqL tH hS, fun b xs nb bx => ?_⟩
    have s7 := same_upd (o := .lst xs) nb
    have B7 : Bt (upd H6 b (.lst xs)) b := ⟨xs, upd_same, bx⟩
    have fb : H b = none := f6.free tH nb
    generalize upd H6 b (.lst xs) = H7 at s7 B7 ⊢
    have f7 := f6.then s7
    have bo7 := bo6.same s7
    obtain ⟨rows7, es7, M7, E7, le7, nk7, eb7⟩ := bo7.deed
    have l20 := good_len bo7.bk.good
    rw [namesN_len] at l20
    refine ⟨_, rfl, _, rfl, _, rfl, _, rfl, mm, .ref rd, rfl, DGet.k (k := .inr "rows") M7.dict, rd, _, rfl, M7.rows, _, _, rfl, rfl, .inr ⟨_, rfl, 1, _, rfl, rfl, ?_⟩⟩
    obtain ⟨tn, htn, tn2⟩ : ∃ tn : Nat, 1 + (if decide (((rowsK rows7).length : Int) < 9) = true then (1 : Int) else 0) = (tn : Int) ∧ tn ≤ 2 := by
      cases decide (((rowsK rows7).length : Int) < 9)
      · exact ⟨1, rfl, by decide⟩
      · exact ⟨2, rfl, by decide⟩
    refine ⟨a, dx, pr, d, mm, pr, rd, b, namesN 20, room, top, widex, rs, tn, 20, by rw [← htn]; rfl, bo7, B7, by omega, by decide, by decide, fun z hz => hz, fun rs8 H8 k8 bo8 B8 l8 c8 => ⟨true, rfl, iteF ?_⟩⟩
    have f8 := f7.fill k8 fb fr fa fd0 bo8
    obtain ⟨rows8, es8, M8, E8, le8, nk8, eb8⟩ := bo8.deed
    refine ⟨_, rfl, _, rfl, b, mm, pr, rd, room, top, widex, rows8, es8, rfl, B8, M8, E8, by omega, fun p3 bt et H9 b0 be e2 k9 B9 np3 e3 => ⟨p3, _, rfl, SqT.of e3, rfl, _, _, rfl, _, _, rfl, rfl, ?_⟩⟩
    have bo9 := bo8.box B8 k9
    have f9 : Fw Ts H H9 := f8.box tH fb k9
    have g := bo9.bk.good
    have r20 : room.length ≤ 20 := by
      obtain ⟨lv, ds, B, L⟩ := bo9.bk.at_
      exact B.r20
    have r1 : 1 ≤ room.length := by
      obtain ⟨lv, ds, B, L⟩ := bo9.bk.at_
      exact B.r1
    refine ⟨_, rfl, _, rfl, _, rfl, _, rfl, a, dx, pr, d, mm, pr, rd, namesN 20, room, top, widex, rs8, bt, et, rfl, bo9, b0, be, e2, fun pl H10 s10 npl epl => ?_⟩
    have bo10 := bo9.same s10
    have f10 := f9.then s10
    have B10 := B9.same s10
    have eet : et = bt + (((et - bt).toNat : Nat) : Int) := by omega
    have npos : 0 < (et - bt).toNat := by omega
    obtain ⟨lv, ds, Bo, L⟩ := bo10.bk.at_
    obtain ⟨rows10, es10, M10, E10, eb10⟩ := bo10.kp
    refine ⟨_, rfl, rfl, false, rfl, iteF ?_⟩
    refine ⟨_, rfl, a, dx, _, rfl, Bo.obj, rfl, _, rfl, _, rfl, a, dx, pr, d, lv, ds, room, rs8, bt, et, rfl, Bo, L, fun p l H11 lls ks kh eah elh sr prs eph => ?_⟩
    obtain ⟨M11, kt11⟩ := MAt.ins Bo.obj kh M10
    have bk11 := bo10.bk.lefts kh eah elh sr prs
    have bo11 : Both H11 Ts C a dx pr d mm pr rd (namesN 20) room top widex rs8 := ⟨bk11, ⟨rows10, es10, M11, E10.imp (fun v r h => h.kt kt11), eb10⟩, bo10.ne⟩
    have f11 : Fw Ts H H11 := f10.fresh (L := [a]) (kh.mono fun x hx => List.mem_append.mpr (.inl hx)) (fun x hx => by rw [List.mem_singleton.mp hx]; exact fa) bk11.tabs
    have B11 : Bt H11 b := by
      obtain ⟨ys, g1, g2⟩ := B10
      refine ⟨ys, kh _ _ (fun z => ?_) g1, g2⟩
      rw [List.mem_singleton.mp z, Bo.obj] at g1
      cases g1
    have epl11 := kt11 _ _ epl
    have eqL : (leastLeft room rs8 bt et (ks.zip (ks.drop 1))).getD room = leftTs room rs8 (timesBE bt (et - bt).toNat) := by
      have := left_times (room := room) (b := bt) g.nn sr npos
      rw [← eet] at this
      exact this
    rw [eqL] at eph
    refine ⟨_, rfl, _, _, rfl, al6_ints eph epl11 (by rw [leftTs_len]; omega), fun H12 s12 => ⟨true, rfl, iteF ?_⟩⟩
    have bo12 := bo11.same s12
    have f12 := f11.then s12
    have B12 := B11.same s12
    have epl12 := s12 _ _ epl11
    have lls := leftTs_len (room := room) (rs := rs8) (timesBE bt (et - bt).toNat)
    refine ⟨_, rfl, _, rfl, _, rfl, _, rfl, _, rfl, _, rfl, pl, _, rfl, .inr (SqT.of epl12), b, _, rfl, B12, by rw [List.length_map]; omega, by rw [List.length_map]; omega, fun r H13 r0 r1' k13 B13 => ?_⟩
    rw [List.length_map] at r1'
    obtain ⟨j, rfl⟩ : ∃ j : Nat, r = (j : Int) := ⟨r.toNat, by omega⟩
    have bo13 := bo12.box B12 k13
    have f13 : Fw Ts H H13 := f12.box tH fb k13
    have epl13 := B12.kt k13 _ _ epl12
    refine ⟨a, dx, pr, d, mm, pr, rd, pl, room, top, widex, rs8, bt, et, j, rfl, bo13, b0, be, e2, epl13, by omega, fun H14 f14 => ⟨true, rfl, iteF ?_⟩⟩
    have bo14 := bo13.fw f14
    have fw14 := f13.trans f14
    have B14 : Bt H14 b := by
      obtain ⟨ys, g1, g2⟩ := B13
      exact ⟨ys, f14.lst bo13.bk.tabs g1, g2⟩
    have epl14 := f14.kt bo13.bk.tabs _ _ epl13
    obtain ⟨lv14, ds14, Bo14, L14⟩ := bo14.bk.at_
    -- a stretch within it
    refine ⟨_, rfl, a, dx, _, rfl, Bo14.obj, rfl, _, rfl, _, rfl, _, rfl, _, rfl, _, _, rfl, rfl, b, _, rfl, B14, by omega, by omega, fun r2 H15 r20' r21 k15 B15 => ⟨bt, r2, rfl, rfl, _, rfl, ?_⟩⟩
    have bo15 := bo14.box B14 k15
    have fw15 : Fw Ts H H15 := fw14.box tH fb k15
    have epl15 := B14.kt k15 _ _ epl14
    obtain ⟨lv15, ds15, Bo15, L15⟩ := bo15.bk.at_
    obtain ⟨rows15, es15, M15, E15, eb15⟩ := bo15.kp
    refine ⟨a, dx, pr, d, lv15, ds15, room, rs8, bt + r2, et, rfl, Bo15, L15, fun p2 l2 H16 lls2 ks2 kh2 eah2 elh2 sr2 prs2 eph2 => ?_⟩
    obtain ⟨M16, kt16⟩ := MAt.ins Bo15.obj kh2 M15
    have bk16 := bo15.bk.lefts kh2 eah2 elh2 sr2 prs2
    have bo16 : Both H16 Ts C a dx pr d mm pr rd (namesN 20) room top widex rs8 := ⟨bk16, ⟨rows15, es15, M16, E15.imp (fun v r h => h.kt kt16), eb15⟩, bo15.ne⟩
    have f16 : Fw Ts H H16 := fw15.fresh (L := [a]) (kh2.mono fun x hx => List.mem_append.mpr (.inl hx)) (fun x hx => by rw [List.mem_singleton.mp hx]; exact fa) bk16.tabs
    have epl16 := kt16 _ _ epl15
    have eqL2 : (leastLeft room rs8 (bt + r2) et (ks2.zip (ks2.drop 1))).getD room = leftTs room rs8 (timesBE (bt + r2) (et - (bt + r2)).toNat) := by
      have := left_times (room := room) (b := bt + r2) (n := (et - (bt + r2)).toNat) g.nn sr2 (by omega)
      rw [show bt + r2 + (((et - (bt + r2)).toNat : Nat) : Int) = et by omega] at this
      exact this
    rw [eqL2] at eph2
    have mono : ∀ i, i < (leftTs room rs8 (timesBE bt (et - bt).toNat)).length → (leftTs room rs8 (timesBE bt (et - bt).toNat)).getD i 0 ≤ (leftTs room rs8 (timesBE (bt + r2) (et - (bt + r2)).toNat)).getD i 0 := fun i hi => left_mono (fun t ht => by
      have := times_mem.mp ht
      exact times_mem.mpr (by omega)) (by omega)
    have anyF := any_lt mono
    have lin := leftTs_len (room := room) (rs := rs8) (timesBE (bt + r2) (et - (bt + r2)).toNat)
    generalize leftTs room rs8 (timesBE (bt + r2) (et - (bt + r2)).toNat) = inn at eph2 anyF lin
    generalize leftTs room rs8 (timesBE bt (et - bt).toNat) = out at epl16 anyF lls
    refine ⟨_, rfl, _, rfl, p2, pl, _, _, rfl, .inr ⟨SqT.of eph2, SqT.of epl16, fun D nD => ?_⟩⟩
    refine lc_it (walk_zipT (xs := inn.map V.int) (ys := out.map V.int) rfl) (fun j H' => Same H16 H' ∧ H' D = some (.lst (((List.zipWith (fun a c : Int => decide (a < c)) inn out).take j).map V.bl)))
      ⟨same_upd nD, upd_same⟩ (fun j H' _ p => ⟨SqT.of (p.1 _ _ eph2), SqT.of (p.1 _ _ epl16)⟩) (fun j v H17 H18 hj p y => ?_) (fun H17 p => ?_)
    · obtain ⟨T1, x1, x2, rfl, nT, rfl, g1, g2⟩ := y
      obtain ⟨z1, z2⟩ := p
      obtain ⟨x, hx, rfl⟩ := get_int g1
      obtain ⟨y, hy, rfl⟩ := get_int g2
      have s18 : Same H17 (upd H17 T1 (.tup [.int x, .int y])) := same_upd nT
      have hj2 : j < inn.length := (List.getElem?_eq_some_iff.mp hx).1
      have hz : (List.zipWith (fun a c : Int => decide (a < c)) inn out)[j]? = some (decide (x < y)) := by
        rw [List.getElem?_zipWith, hx, hy]
      refine ⟨T1, _, rfl, SqT.of upd_same, rfl, _, _, rfl, _, _, rfl, rfl, rfl, ?_⟩
      refine ⟨_, rfl, _, rfl, _, _, rfl, rfl, _, s18 _ _ z2, ?_, same_putA (z1.trans s18) nD, ?_⟩
      · rw [List.length_map, List.length_take]
        exact small63 (by omega)
      · rw [upd_same, List.take_add_one, hz, List.map_append]
        rfl
    · obtain ⟨z1, z2⟩ := p
      have lz : (List.zipWith (fun a c : Int => decide (a < c)) inn out).length ≤ min (inn.map V.int).length (out.map V.int).length := by
        rw [List.length_zipWith, List.length_map, List.length_map]
        exact Nat.le_refl _
      rw [List.take_of_length_le lz] at z2
      refine ⟨D, _, rfl, SqL.of z2, false, ?_, iteF ⟨_, _, _, _, _, _, rs8, rfl, f16.then z1, bo16.same z1⟩⟩
      rw [anyF]
end
end My

namespace My
open PySem PySem.Spec PyProof.Rows L2 GX GxR XI
abbrev sI2 : Stmt := methS 11 0
theorem excT_of {P : Program} {w : World} {K : PySem.W.Frag} {mg : Str → Option Value} {base : Heap} {C fI cda cc N : Addr} {nm q file : Str} {bs bm sub : List Value} {sn : List Str} {ab : Bool} {col : Option Bool} {dd od an cdd cld : Option Addr} {k0 k1 k2 k3 k5 : Option Value} {oc kV doc pm ct ccl cl : Value} {osl ccs csl : Array (Option Value)} {vs : Array Value} {tf : Tok} {k : Nat}
    (l : K.lookup C = some (excClassObj nm q C N bs bm true sn sub ab col dd k0 k1 k2 k3 k5 "ValueError.__new__")) (hbm : PySem.HandSPX.refsVE bm = true)
    (lf : K.lookup fI = some ⟨oc, od, .func (PySem.W.ksFn "__init__" "TooMuch.__init__" (defArgs sI2) (defBody sI2) (defScope sI2) .none kV doc pm an (.ref cda) ct cc), osl⟩) (hcd : PySem.W.codeIn K (.ref cda) "TooMuch.__init__" = true)
    (hcode : K.lookup cda = some ⟨ccl, cdd, .fields vs, ccs⟩) (hvs : vs[2]? = some (.str file tf)) (hfile : ((P.main.file : Str) == file) = true) (hcell : K.lookup cc = some ⟨cl, cld, .cell (some (.ref C)), csl⟩)
    (hms : mg "super" = none) (htop : (P.main.scope.names.lookup ("super" : Str)).isSome = false) (hB : ownBK K C fI "time" = true) (g : mg "TooMuch" = some (.ref C)) :
    ExcT P w K mg base k C fI (PySem.W.ksFn "__init__" "TooMuch.__init__" (defArgs sI2) (defBody sI2) (defScope sI2) .none kV doc pm an (.ref cda) ct cc) := by
  unfold ownBK at hB
  simp only [Bool.and_eq_true, decide_eq_true_eq] at hB
  obtain ⟨h1, h2, h3, h4, h5, h6, h7, h8, h9, h10, h11⟩ := hB
  have xf := xfB_ok h6
  have T : OexC K C := ⟨⟨nm, q, N, bs, bm, sn, sub, ab, col, dd, k0, k1, k2, k3, k5, l, hbm⟩, h1, xf.exC, h2, h3⟩
  have hcl : PySem.W.clsIn K C = some { name := nm, bases := bs, mro := .ref C :: bm, ns := N, qualname := q, hasDict := true, slotNames := sn, subclasses := sub, abstract := ab, collection := col, hasDel := false } := by
    unfold PySem.W.clsIn
    rw [l] <;> rfl
  refine ⟨T, h4, h5, ?_, .all (fun us hl => match us, hl with | [_, _, _], _ => rfl), g⟩
  exact init_fn T h7 lf hcd hcode hvs hfile hcell hcl h8 hms h11 h2 h9 h10 htop rfl rfl rfl rfl rfl rfl rfl (by decide +kernel) rfl rfl rfl (by decide +kernel) (by decide +kernel) (by decide +kernel) (fun _ => rfl)
set_option maxHeartbeats 16000000 in
theorem all_mk {l : PySem.W.OpenLaw} {q : Program} {loose : List Str} {mean : ExcName → Option Value} {w : World} {K : PySem.W.Frag} {h : Heap} {mg mb : Str → Option Value} {fa CB f1 f2 f3 f4 f5 f6 f7 f8 f9 f10 f11 f12 f13 f14 f15 f16 f17 f18 f19 f20 f21 f22 f23 f24 f25 f26 f27 f28 f29 f30 f31 f32 f33 f34 g1 g2 g3 g4 g5 g6 g7 g8 g9 g10 g11 g12 g13 g14 E0 E1 E2 E3 E4 E5 E6 E7 E8 E9 E10 E11 E12 c4 T4 : Addr} (X : K.In h) (Z : PyProof.Rows.Top q loose mean mg mb h) (hfa : mg "law" = some (.ref fa))
    {od1 an1 od2 an2 od3 an3 od4 an4 od5 an5 od6 an6 od7 an7 od8 an8 od9 an9 od10 an10 od11 an11 od12 an12 od13 an13 od14 an14 od15 an15 od16 an16 od17 an17 od18 an18 od19 an19 od20 an20 od21 an21 od22 an22 od23 an23 od24 an24 od25 an25 od26 an26 od27 an27 od28 an28 od29 an29 od30 an30 od31 an31 od32 an32 od33 an33 od34 an34 odM1 anM1 odM2 anM2 odM3 anM3 odM4 anM4 odM5 anM5 odM6 anM6 odM7 anM7 odM8 anM8 odM9 anM9 odM10 anM10 odM11 anM11 odM12 anM12 odM13 anM13 odM14 anM14 : Option Addr} {sl1 sl2 sl3 sl4 sl5 sl6 sl7 sl8 sl9 sl10 sl11 sl12 sl13 sl14 sl15 sl16 sl17 sl18 sl19 sl20 sl21 sl22 sl23 sl24 sl25 sl26 sl27 sl28 sl29 sl30 sl31 sl32 sl33 sl34 slM1 slM2 slM3 slM4 slM5 slM6 slM7 slM8 slM9 slM10 slM11 slM12 slM13 slM14 : Array (Option Value)} {oc1 kV1 dc1 pm1 ct1 oc2 kV2 dc2 pm2 ct2 oc3 kV3 dc3 pm3 ct3 oc4 kV4 dc4 pm4 ct4 oc5 kV5 dc5 pm5 ct5 oc6 kV6 dc6 pm6 ct6 oc7 kV7 dc7 pm7 ct7 oc8 kV8 dc8 pm8 ct8 oc9 kV9 dc9 pm9 ct9 oc10 kV10 dc10 pm10 ct10 oc11 kV11 dc11 pm11 ct11 oc12 kV12 dc12 pm12 ct12 oc13 kV13 dc13 pm13 ct13 oc14 kV14 dc14 pm14 ct14 oc15 kV15 dc15 pm15 ct15 oc16 kV16 dc16 pm16 ct16 oc17 kV17 dc17 pm17 ct17 oc18 kV18 dc18 pm18 ct18 oc19 kV19 dc19 pm19 ct19 oc20 kV20 dc20 pm20 ct20 oc21 kV21 dc21 pm21 ct21 oc22 kV22 dc22 pm22 ct22 oc23 kV23 dc23 pm23 ct23 oc24 kV24 dc24 pm24 ct24 oc25 kV25 dc25 pm25 ct25 oc26 kV26 dc26 pm26 ct26 oc27 kV27 dc27 pm27 ct27 oc28 kV28 dc28 pm28 ct28 oc29 kV29 dc29 pm29 ct29 oc30 kV30 dc30 pm30 ct30 oc31 kV31 dc31 pm31 ct31 oc32 kV32 dc32 pm32 ct32 oc33 kV33 dc33 pm33 ct33 oc34 kV34 dc34 pm34 ct34 ocM1 kVM1 dcM1 pmM1 ctM1 cdM1 ocM2 kVM2 dcM2 pmM2 ctM2 cdM2 ocM3 kVM3 dcM3 pmM3 ctM3 cdM3 ocM4 kVM4 dcM4 pmM4 ctM4 cdM4 ocM5 kVM5 dcM5 pmM5 ctM5 cdM5 ocM6 kVM6 dcM6 pmM6 ctM6 cdM6 ocM7 kVM7 dcM7 pmM7 ctM7 cdM7 ocM8 kVM8 dcM8 pmM8 ctM8 cdM8 ocM9 kVM9 dcM9 pmM9 ctM9 cdM9 ocM10 kVM10 dcM10 pmM10 ctM10 cdM10 ocM11 kVM11 dcM11 pmM11 ctM11 cdM11 ocM12 kVM12 dcM12 pmM12 ctM12 cdM12 ocM13 kVM13 dcM13 pmM13 ctM13 cdM13 ocM14 kVM14 dcM14 pmM14 ctM14 cdM14 cd1 cd2 cd3 cd5 cd6 cd7 cd8 cd9 cd10 cd11 cd12 cd13 cd14 cd15 cd16 cd17 cd18 cd19 cd20 cd21 cd22 cd23 cd24 cd25 cd26 cd27 cd28 cd29 cd30 cd31 cd32 cd33 cd34 : Value} {tk1 tk2 : Tok} {ec4 : Value} {ed4 : Option Addr} {vs4 : Array Value} {es4 : Array (Option Value)}
    {fIx2 cdax2 ccx2 Nx2 : Addr} {nmx2 qx2 filex2 : Str} {bsx2 bmx2 subx2 : List Value} {snx2 : List Str} {abx2 : Bool} {colx2 : Option Bool} {ddx2 odx2 anx2 cddx2 cldx2 : Option Addr} {k0x2 k1x2 k2x2 k3x2 k5x2 : Option Value} {ocx2 kVx2 docx2 pmx2 ctx2 cclx2 clx2 : Value} {oslx2 ccsx2 cslx2 : Array (Option Value)} {vsx2 : Array Value} {tfx2 : Tok}
    (a1 : PySem.W.nsIn K mainGlobals "nothing_of" = some (some (.ref f1))) (l1 : K.lookup f1 = some ⟨oc1, od1, .func (PySem.W.fnOf "nothing_of" "nothing_of" (defArgs s_scNothing) (defBody s_scNothing) (defScope s_scNothing) .none kV1 dc1 pm1 an1 cd1 ct1), sl1⟩) (e1 : PySem.W.codeIn K cd1 "nothing_of" = true) (k1 : PySem.W.keepIn K (.ref f1) = true)
    (a2 : PySem.W.nsIn K mainGlobals "amount_sum" = some (some (.ref f2))) (l2 : K.lookup f2 = some ⟨oc2, od2, .func (PySem.W.fnOf "amount_sum" "amount_sum" (defArgs s_scSum) (defBody s_scSum) (defScope s_scSum) .none kV2 dc2 pm2 an2 cd2 ct2), sl2⟩) (e2 : PySem.W.codeIn K cd2 "amount_sum" = true) (k2 : PySem.W.keepIn K (.ref f2) = true)
    (a3 : PySem.W.nsIn K mainGlobals "amount_less" = some (some (.ref f3))) (l3 : K.lookup f3 = some ⟨oc3, od3, .func (PySem.W.fnOf "amount_less" "amount_less" (defArgs s_scLess) (defBody s_scLess) (defScope s_scLess) .none kV3 dc3 pm3 an3 cd3 ct3), sl3⟩) (e3 : PySem.W.codeIn K cd3 "amount_less" = true) (k3 : PySem.W.keepIn K (.ref f3) = true)
    (a4 : PySem.W.nsIn K mainGlobals "amount_fits" = some (some (.ref f4))) (l4 : K.lookup f4 = some ⟨oc4, od4, .func (PySem.W.fnOf "amount_fits" "amount_fits" (defArgs s_scFits) (defBody s_scFits) (defScope s_scFits) .none kV4 dc4 pm4 an4 (.ref c4) ct4), sl4⟩) (e4 : PySem.W.codeIn K (.ref c4) "amount_fits" = true) (k4 : PySem.W.keepIn K (.ref f4) = true)
    (u4 : K.lookup c4 = some ⟨ec4, ed4, .fields vs4, es4⟩) (v4 : vs4[11]? = some (.ref T4)) (n4 : K.lookup T4 = none) (r4 : ((recsOf q).any fun e => e.name == ("amount_fits" : Str)) = true)
    (a5 : PySem.W.nsIn K mainGlobals "amount_least" = some (some (.ref f5))) (l5 : K.lookup f5 = some ⟨oc5, od5, .func (PySem.W.fnOf "amount_least" "amount_least" (defArgs s_scALeast) (defBody s_scALeast) (defScope s_scALeast) .none kV5 dc5 pm5 an5 cd5 ct5), sl5⟩) (e5 : PySem.W.codeIn K cd5 "amount_least" = true) (k5 : PySem.W.keepIn K (.ref f5) = true)
    (a6 : PySem.W.nsIn K mainGlobals "turns_of" = some (some (.ref f6))) (l6 : K.lookup f6 = some ⟨oc6, od6, .func (PySem.W.fnOf "turns_of" "turns_of" (defArgs s_scTurns) (defBody s_scTurns) (defScope s_scTurns) .none kV6 dc6 pm6 an6 cd6 ct6), sl6⟩) (e6 : PySem.W.codeIn K cd6 "turns_of" = true) (k6 : PySem.W.keepIn K (.ref f6) = true)
    (a7 : PySem.W.nsIn K mainGlobals "loads_of" = some (some (.ref f7))) (l7 : K.lookup f7 = some ⟨oc7, od7, .func (PySem.W.fnOf "loads_of" "loads_of" (defArgs s_scLoads) (defBody s_scLoads) (defScope s_scLoads) .none kV7 dc7 pm7 an7 cd7 ct7), sl7⟩) (e7 : PySem.W.codeIn K cd7 "loads_of" = true) (k7 : PySem.W.keepIn K (.ref f7) = true)
    (a8 : PySem.W.nsIn K mainGlobals "first_over" = some (some (.ref f8))) (l8 : K.lookup f8 = some ⟨oc8, od8, .func (PySem.W.fnOf "first_over" "first_over" (defArgs s_scFirst) (defBody s_scFirst) (defScope s_scFirst) .none kV8 dc8 pm8 an8 cd8 ct8), sl8⟩) (e8 : PySem.W.codeIn K cd8 "first_over" = true) (k8 : PySem.W.keepIn K (.ref f8) = true)
    (a9 : PySem.W.nsIn K mainGlobals "_law_box" = some (some (.ref f9))) (l9 : K.lookup f9 = some ⟨oc9, od9, .func (PySem.W.fnOf "_law_box" "_law_box" (defArgs sBox) (defBody sBox) (defScope sBox) .none kV9 dc9 pm9 an9 cd9 ct9), sl9⟩) (e9 : PySem.W.codeIn K cd9 "_law_box" = true) (k9 : PySem.W.keepIn K (.ref f9) = true)
    (a10 : PySem.W.nsIn K mainGlobals "_law_take" = some (some (.ref f10))) (l10 : K.lookup f10 = some ⟨oc10, od10, .func (PySem.W.fnOf "_law_take" "_law_take" (defArgs sTake) (defBody sTake) (defScope sTake) .none kV10 dc10 pm10 an10 cd10 ct10), sl10⟩) (e10 : PySem.W.codeIn K cd10 "_law_take" = true) (k10 : PySem.W.keepIn K (.ref f10) = true)
    (a11 : PySem.W.nsIn K mainGlobals "_law_number" = some (some (.ref f11))) (l11 : K.lookup f11 = some ⟨oc11, od11, .func (PySem.W.fnOf "_law_number" "_law_number" (defArgs sNumber) (defBody sNumber) (defScope sNumber) .none kV11 dc11 pm11 an11 cd11 ct11), sl11⟩) (e11 : PySem.W.codeIn K cd11 "_law_number" = true) (k11 : PySem.W.keepIn K (.ref f11) = true)
    (a12 : PySem.W.nsIn K mainGlobals "_law_amount" = some (some (.ref f12))) (l12 : K.lookup f12 = some ⟨oc12, od12, .func (PySem.W.fnOf "_law_amount" "_law_amount" (defArgs sAmount) (defBody sAmount) (defScope sAmount) .none kV12 dc12 pm12 an12 cd12 ct12), sl12⟩) (e12 : PySem.W.codeIn K cd12 "_law_amount" = true) (k12 : PySem.W.keepIn K (.ref f12) = true)
    (a13 : PySem.W.nsIn K mainGlobals "_law_name" = some (some (.ref f13))) (l13 : K.lookup f13 = some ⟨oc13, od13, .func (PySem.W.fnOf "_law_name" "_law_name" (defArgs sName) (defBody sName) (defScope sName) .none kV13 dc13 pm13 an13 cd13 ct13), sl13⟩) (e13 : PySem.W.codeIn K cd13 "_law_name" = true) (k13 : PySem.W.keepIn K (.ref f13) = true)
    (a14 : PySem.W.nsIn K mainGlobals "_law_keeping" = some (some (.ref f14))) (l14 : K.lookup f14 = some ⟨oc14, od14, .func (PySem.W.fnOf "_law_keeping" "_law_keeping" (defArgs sKeeping) (defBody sKeeping) (defScope sKeeping) .none kV14 dc14 pm14 an14 cd14 ct14), sl14⟩) (e14 : PySem.W.codeIn K cd14 "_law_keeping" = true) (k14 : PySem.W.keepIn K (.ref f14) = true)
    (a15 : PySem.W.nsIn K mainGlobals "_law_edges" = some (some (.ref f15))) (l15 : K.lookup f15 = some ⟨oc15, od15, .func (PySem.W.fnOf "_law_edges" "_law_edges" (defArgs sEdges) (defBody sEdges) (defScope sEdges) .none kV15 dc15 pm15 an15 cd15 ct15), sl15⟩) (e15 : PySem.W.codeIn K cd15 "_law_edges" = true) (k15 : PySem.W.keepIn K (.ref f15) = true)
    (a16 : PySem.W.nsIn K mainGlobals "_law_time" = some (some (.ref f16))) (l16 : K.lookup f16 = some ⟨oc16, od16, .func (PySem.W.fnOf "_law_time" "_law_time" (defArgs sTime) (defBody sTime) (defScope sTime) .none kV16 dc16 pm16 an16 cd16 ct16), sl16⟩) (e16 : PySem.W.codeIn K cd16 "_law_time" = true) (k16 : PySem.W.keepIn K (.ref f16) = true)
    (a17 : PySem.W.nsIn K mainGlobals "_law_span" = some (some (.ref f17))) (l17 : K.lookup f17 = some ⟨oc17, od17, .func (PySem.W.fnOf "_law_span" "_law_span" (defArgs sSpan) (defBody sSpan) (defScope sSpan) .none kV17 dc17 pm17 an17 cd17 ct17), sl17⟩) (e17 : PySem.W.codeIn K cd17 "_law_span" = true) (k17 : PySem.W.keepIn K (.ref f17) = true)
    (a18 : PySem.W.nsIn K mainGlobals "_law_wanted" = some (some (.ref f18))) (l18 : K.lookup f18 = some ⟨oc18, od18, .func (PySem.W.fnOf "_law_wanted" "_law_wanted" (defArgs sWanted) (defBody sWanted) (defScope sWanted) .none kV18 dc18 pm18 an18 cd18 ct18), sl18⟩) (e18 : PySem.W.codeIn K cd18 "_law_wanted" = true) (k18 : PySem.W.keepIn K (.ref f18) = true)
    (a19 : PySem.W.nsIn K mainGlobals "_law_load" = some (some (.ref f19))) (l19 : K.lookup f19 = some ⟨oc19, od19, .func (PySem.W.fnOf "_law_load" "_law_load" (defArgs s_scKLoad) (defBody s_scKLoad) (defScope s_scKLoad) .none kV19 dc19 pm19 an19 cd19 ct19), sl19⟩) (e19 : PySem.W.codeIn K cd19 "_law_load" = true) (k19 : PySem.W.keepIn K (.ref f19) = true)
    (a20 : PySem.W.nsIn K mainGlobals "_law_first_more" = some (some (.ref f20))) (l20 : K.lookup f20 = some ⟨oc20, od20, .func (PySem.W.fnOf "_law_first_more" "_law_first_more" (defArgs s_scKMore) (defBody s_scKMore) (defScope s_scKMore) .none kV20 dc20 pm20 an20 cd20 ct20), sl20⟩) (e20 : PySem.W.codeIn K cd20 "_law_first_more" = true) (k20 : PySem.W.keepIn K (.ref f20) = true)
    (a21 : PySem.W.nsIn K mainGlobals "_law_deed" = some (some (.ref f21))) (l21 : K.lookup f21 = some ⟨oc21, od21, .func (PySem.W.fnOf "_law_deed" "_law_deed" (defArgs s_scKDeed) (defBody s_scKDeed) (defScope s_scKDeed) .none kV21 dc21 pm21 an21 cd21 ct21), sl21⟩) (e21 : PySem.W.codeIn K cd21 "_law_deed" = true) (k21 : PySem.W.keepIn K (.ref f21) = true)
    (a22 : PySem.W.nsIn K mainGlobals "_law_due" = some (some (.ref f22))) (l22 : K.lookup f22 = some ⟨oc22, od22, .func (PySem.W.fnOf "_law_due" "_law_due" (defArgs s_scKDue) (defBody s_scKDue) (defScope s_scKDue) .none kV22 dc22 pm22 an22 cd22 ct22), sl22⟩) (e22 : PySem.W.codeIn K cd22 "_law_due" = true) (k22 : PySem.W.keepIn K (.ref f22) = true)
    (a23 : PySem.W.nsIn K mainGlobals "_law_put_due" = some (some (.ref f23))) (l23 : K.lookup f23 = some ⟨oc23, od23, .func (PySem.W.fnOf "_law_put_due" "_law_put_due" (defArgs s_scKPDue) (defBody s_scKPDue) (defScope s_scKPDue) .none kV23 dc23 pm23 an23 cd23 ct23), sl23⟩) (e23 : PySem.W.codeIn K cd23 "_law_put_due" = true) (k23 : PySem.W.keepIn K (.ref f23) = true)
    (a24 : PySem.W.nsIn K mainGlobals "_law_called" = some (some (.ref f24))) (l24 : K.lookup f24 = some ⟨oc24, od24, .func (PySem.W.fnOf "_law_called" "_law_called" (defArgs s_scKCall) (defBody s_scKCall) (defScope s_scKCall) .none kV24 dc24 pm24 an24 cd24 ct24), sl24⟩) (e24 : PySem.W.codeIn K cd24 "_law_called" = true) (k24 : PySem.W.keepIn K (.ref f24) = true)
    (a25 : PySem.W.nsIn K mainGlobals "_law_word" = some (some (.ref f25))) (l25 : K.lookup f25 = some ⟨oc25, od25, .func (PySem.W.fnOf "_law_word" "_law_word" (defArgs s_scKWord) (defBody s_scKWord) (defScope s_scKWord) .none kV25 dc25 pm25 an25 cd25 ct25), sl25⟩) (e25 : PySem.W.codeIn K cd25 "_law_word" = true) (k25 : PySem.W.keepIn K (.ref f25) = true)
    (a26 : PySem.W.nsIn K mainGlobals "_law_told" = some (some (.ref f26))) (l26 : K.lookup f26 = some ⟨oc26, od26, .func (PySem.W.fnOf "_law_told" "_law_told" (defArgs s_scKTold) (defBody s_scKTold) (defScope s_scKTold) .none kV26 dc26 pm26 an26 cd26 ct26), sl26⟩) (e26 : PySem.W.codeIn K cd26 "_law_told" = true) (k26 : PySem.W.keepIn K (.ref f26) = true)
    (a27 : PySem.W.nsIn K mainGlobals "_law_alike" = some (some (.ref f27))) (l27 : K.lookup f27 = some ⟨oc27, od27, .func (PySem.W.fnOf "_law_alike" "_law_alike" (defArgs s_scAlk) (defBody s_scAlk) (defScope s_scAlk) .none kV27 dc27 pm27 an27 cd27 ct27), sl27⟩) (e27 : PySem.W.codeIn K cd27 "_law_alike" = true) (k27 : PySem.W.keepIn K (.ref f27) = true)
    (a28 : PySem.W.nsIn K mainGlobals "_law_rows_due" = some (some (.ref f28))) (l28 : K.lookup f28 = some ⟨oc28, od28, .func (PySem.W.fnOf "_law_rows_due" "_law_rows_due" (defArgs s_scKRows) (defBody s_scKRows) (defScope s_scKRows) .none kV28 dc28 pm28 an28 cd28 ct28), sl28⟩) (e28 : PySem.W.codeIn K cd28 "_law_rows_due" = true) (k28 : PySem.W.keepIn K (.ref f28) = true)
    (a29 : PySem.W.nsIn K mainGlobals "_law_stands" = some (some (.ref f29))) (l29 : K.lookup f29 = some ⟨oc29, od29, .func (PySem.W.fnOf "_law_stands" "_law_stands" (defArgs s_scKSt) (defBody s_scKSt) (defScope s_scKSt) .none kV29 dc29 pm29 an29 cd29 ct29), sl29⟩) (e29 : PySem.W.codeIn K cd29 "_law_stands" = true) (k29 : PySem.W.keepIn K (.ref f29) = true)
    (a30 : PySem.W.nsIn K mainGlobals "_law_goes" = some (some (.ref f30))) (l30 : K.lookup f30 = some ⟨oc30, od30, .func (PySem.W.fnOf "_law_goes" "_law_goes" (defArgs s_scKGoes) (defBody s_scKGoes) (defScope s_scKGoes) .none kV30 dc30 pm30 an30 cd30 ct30), sl30⟩) (e30 : PySem.W.codeIn K cd30 "_law_goes" = true) (k30 : PySem.W.keepIn K (.ref f30) = true)
    (a31 : PySem.W.nsIn K mainGlobals "_law_filled" = some (some (.ref f31))) (l31 : K.lookup f31 = some ⟨oc31, od31, .func (PySem.W.fnOf "_law_filled" "_law_filled" (defArgs s_scKFill) (defBody s_scKFill) (defScope s_scKFill) .none kV31 dc31 pm31 an31 cd31 ct31), sl31⟩) (e31 : PySem.W.codeIn K cd31 "_law_filled" = true) (k31 : PySem.W.keepIn K (.ref f31) = true)
    (a32 : PySem.W.nsIn K mainGlobals "_law_by_times" = some (some (.ref f32))) (l32 : K.lookup f32 = some ⟨oc32, od32, .func (PySem.W.fnOf "_law_by_times" "_law_by_times" (defArgs s_scKBT) (defBody s_scKBT) (defScope s_scKBT) .none kV32 dc32 pm32 an32 cd32 ct32), sl32⟩) (e32 : PySem.W.codeIn K cd32 "_law_by_times" = true) (k32 : PySem.W.keepIn K (.ref f32) = true)
    (a33 : PySem.W.nsIn K mainGlobals "_law_just_fits" = some (some (.ref f33))) (l33 : K.lookup f33 = some ⟨oc33, od33, .func (PySem.W.fnOf "_law_just_fits" "_law_just_fits" (defArgs s_scKJF) (defBody s_scKJF) (defScope s_scKJF) .none kV33 dc33 pm33 an33 cd33 ct33), sl33⟩) (e33 : PySem.W.codeIn K cd33 "_law_just_fits" = true) (k33 : PySem.W.keepIn K (.ref f33) = true)
    (a34 : PySem.W.nsIn K mainGlobals "law" = some (some (.ref f34))) (l34 : K.lookup f34 = some ⟨oc34, od34, .func (PySem.W.fnOf "law" "law" (defArgs s_scKLaw) (defBody s_scKLaw) (defScope s_scKLaw) .none kV34 dc34 pm34 an34 cd34 ct34), sl34⟩) (e34 : PySem.W.codeIn K cd34 "law" = true) (k34 : PySem.W.keepIn K (.ref f34) = true)
    (z1 : PySem.W.nsIn K mainGlobals "len" = some none)
    (z2 : PySem.W.nsIn K mainGlobals "abs" = some none)
    (z3 : PySem.W.nsIn K mainGlobals "isinstance" = some none)
    (z4 : PySem.W.nsIn K mainGlobals "list" = some none)
    (z5 : PySem.W.nsIn K mainGlobals "tuple" = some none)
    (z6 : PySem.W.nsIn K mainGlobals "zip" = some none)
    (z7 : PySem.W.nsIn K mainGlobals "all" = some none)
    (z8 : PySem.W.nsIn K mainGlobals "str" = some none)
    (z9 : PySem.W.nsIn K mainGlobals "int" = some none)
    (z10 : PySem.W.nsIn K mainGlobals "bool" = some none)
    (z11 : PySem.W.nsIn K mainGlobals "max" = some none)
    (z12 : PySem.W.nsIn K mainGlobals "min" = some none)
    (z13 : PySem.W.nsIn K mainGlobals "range" = some none)
    (z14 : PySem.W.nsIn K mainGlobals "sorted" = some none)
    (z15 : PySem.W.nsIn K mainGlobals "any" = some none)
    (z16 : PySem.W.nsIn K mainGlobals "ValueError" = some none)
    (z17 : PySem.W.nsIn K mainGlobals "super" = some none)
    (z18 : PySem.W.nsIn K mainGlobals "dict" = some none)
    (y1 : PySem.W.nsIn K mainGlobals "ENDS" = some (some (.int 0 tk1)))
    (y2 : PySem.W.nsIn K mainGlobals "BEGINS" = some (some (.int 1 tk2)))
    (x0 : PySem.W.nsIn K mainGlobals "Taken" = some (some (.ref E0)))
    (x1 : PySem.W.nsIn K mainGlobals "NoKey" = some (some (.ref E1)))
    (x2 : PySem.W.nsIn K mainGlobals "TooMuch" = some (some (.ref E2)))
    (x3 : PySem.W.nsIn K mainGlobals "NoHouse" = some (some (.ref E3)))
    (x4 : PySem.W.nsIn K mainGlobals "NoGang" = some (some (.ref E4)))
    (x5 : PySem.W.nsIn K mainGlobals "NoGuild" = some (some (.ref E5)))
    (x6 : PySem.W.nsIn K mainGlobals "NoKind" = some (some (.ref E6)))
    (x7 : PySem.W.nsIn K mainGlobals "InUse" = some (some (.ref E7)))
    (x8 : PySem.W.nsIn K mainGlobals "TooMany" = some (some (.ref E8)))
    (x9 : PySem.W.nsIn K mainGlobals "NoPlan" = some (some (.ref E9)))
    (x10 : PySem.W.nsIn K mainGlobals "Past" = some (some (.ref E10)))
    (x11 : PySem.W.nsIn K mainGlobals "BadRow" = some (some (.ref E11)))
    (x12 : PySem.W.nsIn K mainGlobals "HallError" = some (some (.ref E12)))
    (xT : (l.prog.main.scope.names.lookup ("super" : Str)).isSome = false)
    (hR : refsBK K [E0, E1, E2, E3, E4, E5, E6, E7, E8, E9, E10, E11, E12] = true)
    (h0 : excPB K E0 = true) (h1 : excPB K E1 = true)
    (la2 : K.lookup E2 = some (excClassObj nmx2 qx2 E2 Nx2 bsx2 bmx2 true snx2 subx2 abx2 colx2 ddx2 k0x2 k1x2 k2x2 k3x2 k5x2 "ValueError.__new__"))
    (lb2 : PySem.HandSPX.refsVE bmx2 = true)
    (ii2 : PySem.W.findIn K (.ref E2) "__init__" = some (some (.ref fIx2)))
    (lc2 : K.lookup fIx2 = some ⟨ocx2, odx2, .func (PySem.W.ksFn "__init__" "TooMuch.__init__" (defArgs sI2) (defBody sI2) (defScope sI2) .none kVx2 docx2 pmx2 anx2 (.ref cdax2) ctx2 ccx2), oslx2⟩)
    (ld2 : PySem.W.codeIn K (.ref cdax2) "TooMuch.__init__" = true)
    (le2 : K.lookup cdax2 = some ⟨cclx2, cddx2, .fields vsx2, ccsx2⟩)
    (lg2 : vsx2[2]? = some (.str filex2 tfx2))
    (lh2 : ((l.prog.main.file : Str) == filex2) = true)
    (li2 : K.lookup ccx2 = some ⟨clx2, cldx2, .cell (some (.ref E2)), cslx2⟩)
    (lj2 : ownBK K E2 fIx2 "time" = true)
    (xB : PySem.W.nsIn K mainGlobals "Book" = some (some (.ref CB)))
    (hB : bookB K CB = true)
    (aM1 : PySem.W.findIn K (.ref CB) "entry_rows" = some (some (.ref g1))) (lM1 : K.lookup g1 = some ⟨ocM1, odM1, .func (PySem.W.fnOf "entry_rows" "Book.entry_rows" (defArgs s_scERows) (defBody s_scERows) (defScope s_scERows) .none kVM1 dcM1 pmM1 anM1 cdM1 ctM1), slM1⟩) (eM1 : PySem.W.codeIn K cdM1 "Book.entry_rows" = true) (kM1 : PySem.W.keepIn K (.ref g1) = true) (nM1 : PySem.W.isFn K (.ref g1) = true)
    (aM2 : PySem.W.findIn K (.ref CB) "whole_room" = some (some (.ref g2))) (lM2 : K.lookup g2 = some ⟨ocM2, odM2, .func (PySem.W.fnOf "whole_room" "Book.whole_room" (defArgs s_scWRoom) (defBody s_scWRoom) (defScope s_scWRoom) .none kVM2 dcM2 pmM2 anM2 cdM2 ctM2), slM2⟩) (eM2 : PySem.W.codeIn K cdM2 "Book.whole_room" = true) (kM2 : PySem.W.keepIn K (.ref g2) = true) (nM2 : PySem.W.isFn K (.ref g2) = true)
    (aM3 : PySem.W.findIn K (.ref CB) "load_at" = some (some (.ref g3))) (lM3 : K.lookup g3 = some ⟨ocM3, odM3, .func (PySem.W.fnOf "load_at" "Book.load_at" (defArgs s_scLoadAt) (defBody s_scLoadAt) (defScope s_scLoadAt) .none kVM3 dcM3 pmM3 anM3 cdM3 ctM3), slM3⟩) (eM3 : PySem.W.codeIn K cdM3 "Book.load_at" = true) (kM3 : PySem.W.keepIn K (.ref g3) = true) (nM3 : PySem.W.isFn K (.ref g3) = true)
    (aM4 : PySem.W.findIn K (.ref CB) "left_rows" = some (some (.ref g4))) (lM4 : K.lookup g4 = some ⟨ocM4, odM4, .func (PySem.W.fnOf "left_rows" "Book.left_rows" (defArgs s_scLRows) (defBody s_scLRows) (defScope s_scLRows) .none kVM4 dcM4 pmM4 anM4 cdM4 ctM4), slM4⟩) (eM4 : PySem.W.codeIn K cdM4 "Book.left_rows" = true) (kM4 : PySem.W.keepIn K (.ref g4) = true) (nM4 : PySem.W.isFn K (.ref g4) = true)
    (aM5 : PySem.W.findIn K (.ref CB) "left_over" = some (some (.ref g5))) (lM5 : K.lookup g5 = some ⟨ocM5, odM5, .func (PySem.W.fnOf "left_over" "Book.left_over" (defArgs s_scLOver) (defBody s_scLOver) (defScope s_scLOver) .none kVM5 dcM5 pmM5 anM5 cdM5 ctM5), slM5⟩) (eM5 : PySem.W.codeIn K cdM5 "Book.left_over" = true) (kM5 : PySem.W.keepIn K (.ref g5) = true) (nM5 : PySem.W.isFn K (.ref g5) = true)
    (aM6 : PySem.W.findIn K (.ref CB) "entry_of" = some (some (.ref g6))) (lM6 : K.lookup g6 = some ⟨ocM6, odM6, .func (PySem.W.fnOf "entry_of" "Book.entry_of" (defArgs s_scEOf) (defBody s_scEOf) (defScope s_scEOf) .none kVM6 dcM6 pmM6 anM6 cdM6 ctM6), slM6⟩) (eM6 : PySem.W.codeIn K cdM6 "Book.entry_of" = true) (kM6 : PySem.W.keepIn K (.ref g6) = true) (nM6 : PySem.W.isFn K (.ref g6) = true)
    (aM7 : PySem.W.findIn K (.ref CB) "drop_entry" = some (some (.ref g7))) (lM7 : K.lookup g7 = some ⟨ocM7, odM7, .func (PySem.W.fnOf "drop_entry" "Book.drop_entry" (defArgs s_scDrop) (defBody s_scDrop) (defScope s_scDrop) .none kVM7 dcM7 pmM7 anM7 cdM7 ctM7), slM7⟩) (eM7 : PySem.W.codeIn K cdM7 "Book.drop_entry" = true) (kM7 : PySem.W.keepIn K (.ref g7) = true) (nM7 : PySem.W.isFn K (.ref g7) = true)
    (aM8 : PySem.W.findIn K (.ref CB) "keep_entry" = some (some (.ref g8))) (lM8 : K.lookup g8 = some ⟨ocM8, odM8, .func (PySem.W.fnOf "keep_entry" "Book.keep_entry" (defArgs s_scKeep) (defBody s_scKeep) (defScope s_scKeep) .none kVM8 dcM8 pmM8 anM8 cdM8 ctM8), slM8⟩) (eM8 : PySem.W.codeIn K cdM8 "Book.keep_entry" = true) (kM8 : PySem.W.keepIn K (.ref g8) = true) (nM8 : PySem.W.isFn K (.ref g8) = true)
    (aM9 : PySem.W.findIn K (.ref CB) "put_entry" = some (some (.ref g9))) (lM9 : K.lookup g9 = some ⟨ocM9, odM9, .func (PySem.W.fnOf "put_entry" "Book.put_entry" (defArgs s_scPut) (defBody s_scPut) (defScope s_scPut) .none kVM9 dcM9 pmM9 anM9 cdM9 ctM9), slM9⟩) (eM9 : PySem.W.codeIn K cdM9 "Book.put_entry" = true) (kM9 : PySem.W.keepIn K (.ref g9) = true) (nM9 : PySem.W.isFn K (.ref g9) = true)
    (aM10 : PySem.W.findIn K (.ref CB) "stretch_entry" = some (some (.ref g10))) (lM10 : K.lookup g10 = some ⟨ocM10, odM10, .func (PySem.W.fnOf "stretch_entry" "Book.stretch_entry" (defArgs s_scStretch) (defBody s_scStretch) (defScope s_scStretch) .none kVM10 dcM10 pmM10 anM10 cdM10 ctM10), slM10⟩) (eM10 : PySem.W.codeIn K cdM10 "Book.stretch_entry" = true) (kM10 : PySem.W.keepIn K (.ref g10) = true) (nM10 : PySem.W.isFn K (.ref g10) = true)
    (aM11 : PySem.W.findIn K (.ref CB) "cut_entry" = some (some (.ref g11))) (lM11 : K.lookup g11 = some ⟨ocM11, odM11, .func (PySem.W.fnOf "cut_entry" "Book.cut_entry" (defArgs s_scCut) (defBody s_scCut) (defScope s_scCut) .none kVM11 dcM11 pmM11 anM11 cdM11 ctM11), slM11⟩) (eM11 : PySem.W.codeIn K cdM11 "Book.cut_entry" = true) (kM11 : PySem.W.keepIn K (.ref g11) = true) (nM11 : PySem.W.isFn K (.ref g11) = true)
    (aM12 : PySem.W.findIn K (.ref CB) "drop_past" = some (some (.ref g12))) (lM12 : K.lookup g12 = some ⟨ocM12, odM12, .func (PySem.W.fnOf "drop_past" "Book.drop_past" (defArgs s_scPast) (defBody s_scPast) (defScope s_scPast) .none kVM12 dcM12 pmM12 anM12 cdM12 ctM12), slM12⟩) (eM12 : PySem.W.codeIn K cdM12 "Book.drop_past" = true) (kM12 : PySem.W.keepIn K (.ref g12) = true) (nM12 : PySem.W.isFn K (.ref g12) = true)
    (aM13 : PySem.W.findIn K (.ref CB) "__init__" = some (some (.ref g13))) (lM13 : K.lookup g13 = some ⟨ocM13, odM13, .func (PySem.W.fnOf "__init__" "Book.__init__" (defArgs s_scInit) (defBody s_scInit) (defScope s_scInit) .none kVM13 dcM13 pmM13 anM13 cdM13 ctM13), slM13⟩) (eM13 : PySem.W.codeIn K cdM13 "Book.__init__" = true) (kM13 : PySem.W.keepIn K (.ref g13) = true) (nM13 : PySem.W.isFn K (.ref g13) = true)
    (aM14 : PySem.W.findIn K (.ref CB) "twin_book" = some (some (.ref g14))) (lM14 : K.lookup g14 = some ⟨ocM14, odM14, .func (PySem.W.fnOf "twin_book" "Book.twin_book" (defArgs s_scTwin) (defBody s_scTwin) (defScope s_scTwin) .none kVM14 dcM14 pmM14 anM14 cdM14 ctM14), slM14⟩) (eM14 : PySem.W.codeIn K cdM14 "Book.twin_book" = true) (kM14 : PySem.W.keepIn K (.ref g14) = true) (nM14 : PySem.W.isFn K (.ref g14) = true) :
    LamX.LawAtS l w K CX0 10 63 "_law_script" mg fa h := by
  have G := Z.g
  have e := hfa.symm.trans (PySem.W.mg_of X G a34)
  cases e
  have F1 := fun_mk (st := s_scNothing) l1 e1 k1
  have b1 := F1.binds (ps := ["wares"]) (fun _ _ _ _ _ _ us hl => match us, hl with | [_], _ => rfl)
  have m1 := PySem.W.mg_of X G a1
  have F2 := fun_mk (st := s_scSum) l2 e2 k2
  have b2 := F2.binds (ps := ["one", "other"]) (fun _ _ _ _ _ _ us hl => match us, hl with | [_, _], _ => rfl)
  have m2 := PySem.W.mg_of X G a2
  have F3 := fun_mk (st := s_scLess) l3 e3 k3
  have b3 := F3.binds (ps := ["one", "other"]) (fun _ _ _ _ _ _ us hl => match us, hl with | [_, _], _ => rfl)
  have m3 := PySem.W.mg_of X G a3
  have C4 : FunC K "amount_fits" "amount_fits" s_scFits f4 _ c4 := ⟨⟨_, _, _, _, _, _, _, _, rfl, l4, e4⟩, k4⟩
  have F4 := C4.fn
  obtain ⟨h4x, g4x⟩ := tab_at Z X r4 (tab_in a4 l4 rfl u4 v4)
  have b4 := F4.binds (ps := ["one", "other"]) (fun _ _ _ _ _ _ us hl => match us, hl with | [_, _], _ => rfl)
  have m4 := PySem.W.mg_of X G a4
  have F5 := fun_mk (st := s_scALeast) l5 e5 k5
  have b5 := F5.binds (ps := ["one", "other"]) (fun _ _ _ _ _ _ us hl => match us, hl with | [_, _], _ => rfl)
  have m5 := PySem.W.mg_of X G a5
  have F6 := fun_mk (st := s_scTurns) l6 e6 k6
  have b6 := F6.binds (ps := ["rows"]) (fun _ _ _ _ _ _ us hl => match us, hl with | [_], _ => rfl)
  have m6 := PySem.W.mg_of X G a6
  have F7 := fun_mk (st := s_scLoads) l7 e7 k7
  have b7 := F7.binds (ps := ["wares", "rows"]) (fun _ _ _ _ _ _ us hl => match us, hl with | [_, _], _ => rfl)
  have m7 := PySem.W.mg_of X G a7
  have F8 := fun_mk (st := s_scFirst) l8 e8 k8
  have b8 := F8.binds (ps := ["room", "rows"]) (fun _ _ _ _ _ _ us hl => match us, hl with | [_, _], _ => rfl)
  have m8 := PySem.W.mg_of X G a8
  have F9 := fun_mk (st := sBox) l9 e9 k9
  have b9 := F9.binds (ps := ["_law_script", "_law_k"]) (fun _ _ _ _ _ _ us hl => match us, hl with | [_, _], _ => rfl)
  have m9 := PySem.W.mg_of X G a9
  have F10 := fun_mk (st := sTake) l10 e10 k10
  have b10 := F10.binds (ps := ["_law_box_here", "_law_many"]) (fun _ _ _ _ _ _ us hl => match us, hl with | [_, _], _ => rfl)
  have m10 := PySem.W.mg_of X G a10
  have F11 := fun_mk (st := sNumber) l11 e11 k11
  have b11 := F11.binds (ps := ["_law_box_here", "_law_top"]) (fun _ _ _ _ _ _ us hl => match us, hl with | [_, _], _ => rfl)
  have m11 := PySem.W.mg_of X G a11
  have F12 := fun_mk (st := sAmount) l12 e12 k12
  have b12 := F12.binds (ps := ["_law_box_here", "_law_wares", "_law_top"]) (fun _ _ _ _ _ _ us hl => match us, hl with | [_, _, _], _ => rfl)
  have m12 := PySem.W.mg_of X G a12
  have F13 := fun_mk (st := sName) l13 e13 k13
  have b13 := F13.binds (ps := ["_law_n"]) (fun _ _ _ _ _ _ us hl => match us, hl with | [_], _ => rfl)
  have m13 := PySem.W.mg_of X G a13
  have F14 := fun_mk (st := sKeeping) l14 e14 k14
  have b14 := F14.binds (ps := ["_law_box_here"]) (fun _ _ _ _ _ _ us hl => match us, hl with | [_], _ => rfl)
  have m14 := PySem.W.mg_of X G a14
  have F15 := fun_mk (st := sEdges) l15 e15 k15
  have b15 := F15.binds (ps := ["_law_m"]) (fun _ _ _ _ _ _ us hl => match us, hl with | [_], _ => rfl)
  have m15 := PySem.W.mg_of X G a15
  have F16 := fun_mk (st := sTime) l16 e16 k16
  have b16 := F16.binds (ps := ["_law_box_here", "_law_m"]) (fun _ _ _ _ _ _ us hl => match us, hl with | [_, _], _ => rfl)
  have m16 := PySem.W.mg_of X G a16
  have F17 := fun_mk (st := sSpan) l17 e17 k17
  have b17 := F17.binds (ps := ["_law_box_here", "_law_m"]) (fun _ _ _ _ _ _ us hl => match us, hl with | [_, _], _ => rfl)
  have m17 := PySem.W.mg_of X G a17
  have F18 := fun_mk (st := sWanted) l18 e18 k18
  have b18 := F18.binds (ps := ["_law_box_here", "_law_m"]) (fun _ _ _ _ _ _ us hl => match us, hl with | [_, _], _ => rfl)
  have m18 := PySem.W.mg_of X G a18
  have F19 := fun_mk (st := s_scKLoad) l19 e19 k19
  have b19 := F19.binds (ps := ["_law_m", "_law_time_here"]) (fun _ _ _ _ _ _ us hl => match us, hl with | [_, _], _ => rfl)
  have m19 := PySem.W.mg_of X G a19
  have F20 := fun_mk (st := s_scKMore) l20 e20 k20
  have b20 := F20.binds (ps := ["_law_m", "_law_begin", "_law_end", "_law_amount_here"]) (fun _ _ _ _ _ _ us hl => match us, hl with | [_, _, _, _], _ => rfl)
  have m20 := PySem.W.mg_of X G a20
  have F21 := fun_mk (st := s_scKDeed) l21 e21 k21
  have b21 := F21.binds (ps := ["_law_box_here", "_law_m", "_law_words", "_law_many"]) (fun _ _ _ _ _ _ us hl => match us, hl with | [_, _, _, _], _ => rfl)
  have m21 := PySem.W.mg_of X G a21
  have F22 := fun_mk (st := s_scKDue) l22 e22 k22
  have b22 := F22.binds (ps := ["_law_m", "_law_deed_here"]) (fun _ _ _ _ _ _ us hl => match us, hl with | [_, _], _ => rfl)
  have m22 := PySem.W.mg_of X G a22
  have F23 := fun_mk (st := s_scKPDue) l23 e23 k23
  have b23 := F23.binds (ps := ["_law_m", "_law_deed_here"]) (fun _ _ _ _ _ _ us hl => match us, hl with | [_, _], _ => rfl)
  have m23 := PySem.W.mg_of X G a23
  have F24 := fun_mk (st := s_scKCall) l24 e24 k24
  have b24 := F24.binds (ps := ["_law_book", "_law_deed_here"]) (fun _ _ _ _ _ _ us hl => match us, hl with | [_, _], _ => rfl)
  have m24 := PySem.W.mg_of X G a24
  have F25 := fun_mk (st := s_scKWord) l25 e25 k25
  have b25 := F25.binds (ps := ["_law_e"]) (fun _ _ _ _ _ _ us hl => match us, hl with | [_], _ => rfl)
  have m25 := PySem.W.mg_of X G a25
  have F26 := fun_mk (st := s_scKTold) l26 e26 k26
  have b26 := F26.binds (ps := ["_law_book", "_law_deed_here"]) (fun _ _ _ _ _ _ us hl => match us, hl with | [_, _], _ => rfl)
  have m26 := PySem.W.mg_of X G a26
  have F27 := fun_mk (st := s_scAlk) l27 e27 k27
  have b27 := F27.binds (ps := ["_law_found", "_law_due_here"]) (fun _ _ _ _ _ _ us hl => match us, hl with | [_, _], _ => rfl)
  have m27 := PySem.W.mg_of X G a27
  have F28 := fun_mk (st := s_scKRows) l28 e28 k28
  have b28 := F28.binds (ps := ["_law_m"]) (fun _ _ _ _ _ _ us hl => match us, hl with | [_], _ => rfl)
  have m28 := PySem.W.mg_of X G a28
  have F29 := fun_mk (st := s_scKSt) l29 e29 k29
  have b29 := F29.binds (ps := ["_law_book", "_law_m"]) (fun _ _ _ _ _ _ us hl => match us, hl with | [_, _], _ => rfl)
  have m29 := PySem.W.mg_of X G a29
  have F30 := fun_mk (st := s_scKGoes) l30 e30 k30
  have b30 := F30.binds (ps := ["_law_book", "_law_m", "_law_deed_here"]) (fun _ _ _ _ _ _ us hl => match us, hl with | [_, _, _], _ => rfl)
  have m30 := PySem.W.mg_of X G a30
  have F31 := fun_mk (st := s_scKFill) l31 e31 k31
  have b31 := F31.binds (ps := ["_law_book", "_law_m", "_law_box_here", "_law_turns", "_law_many"]) (fun _ _ _ _ _ _ us hl => match us, hl with | [_, _, _, _, _], _ => rfl)
  have m31 := PySem.W.mg_of X G a31
  have F32 := fun_mk (st := s_scKBT) l32 e32 k32
  have b32 := F32.binds (ps := ["_law_book", "_law_m", "_law_begin", "_law_end"]) (fun _ _ _ _ _ _ us hl => match us, hl with | [_, _, _, _], _ => rfl)
  have m32 := PySem.W.mg_of X G a32
  have F33 := fun_mk (st := s_scKJF) l33 e33 k33
  have b33 := F33.binds (ps := ["_law_book", "_law_begin", "_law_end", "_law_left", "_law_place"]) (fun _ _ _ _ _ _ us hl => match us, hl with | [_, _, _, _, _], _ => rfl)
  have m33 := PySem.W.mg_of X G a33
  have F34 := fun_mk (st := s_scKLaw) l34 e34 k34
  have FM1 := fun_mk (st := s_scERows) lM1 eM1 kM1
  have bM1 := FM1.binds (ps := ["self"]) (fun _ _ _ _ _ _ us hl => match us, hl with | [_], _ => rfl)
  have MM1 : Meth K CB "entry_rows" g1 := ⟨aM1, nM1, kM1⟩
  have FM2 := fun_mk (st := s_scWRoom) lM2 eM2 kM2
  have bM2 := FM2.binds (ps := ["self"]) (fun _ _ _ _ _ _ us hl => match us, hl with | [_], _ => rfl)
  have MM2 : Meth K CB "whole_room" g2 := ⟨aM2, nM2, kM2⟩
  have FM3 := fun_mk (st := s_scLoadAt) lM3 eM3 kM3
  have bM3 := FM3.binds (ps := ["self", "time"]) (fun _ _ _ _ _ _ us hl => match us, hl with | [_, _], _ => rfl)
  have MM3 : Meth K CB "load_at" g3 := ⟨aM3, nM3, kM3⟩
  have FM4 := fun_mk (st := s_scLRows) lM4 eM4 kM4
  have bM4 := FM4.binds (ps := ["self"]) (fun _ _ _ _ _ _ us hl => match us, hl with | [_], _ => rfl)
  have MM4 : Meth K CB "left_rows" g4 := ⟨aM4, nM4, kM4⟩
  have FM5 := fun_mk (st := s_scLOver) lM5 eM5 kM5
  have bM5 := FM5.binds (ps := ["self", "begin", "end"]) (fun _ _ _ _ _ _ us hl => match us, hl with | [_, _, _], _ => rfl)
  have MM5 : Meth K CB "left_over" g5 := ⟨aM5, nM5, kM5⟩
  have FM6 := fun_mk (st := s_scEOf) lM6 eM6 kM6
  have bM6 := FM6.binds (ps := ["self", "key"]) (fun _ _ _ _ _ _ us hl => match us, hl with | [_, _], _ => rfl)
  have MM6 : Meth K CB "entry_of" g6 := ⟨aM6, nM6, kM6⟩
  have FM7 := fun_mk (st := s_scDrop) lM7 eM7 kM7
  have bM7 := FM7.binds (ps := ["self", "key"]) (fun _ _ _ _ _ _ us hl => match us, hl with | [_, _], _ => rfl)
  have MM7 : Meth K CB "drop_entry" g7 := ⟨aM7, nM7, kM7⟩
  have FM8 := fun_mk (st := s_scKeep) lM8 eM8 kM8
  have bM8 := FM8.binds (ps := ["self", "entry"]) (fun _ _ _ _ _ _ us hl => match us, hl with | [_, _], _ => rfl)
  have MM8 : Meth K CB "keep_entry" g8 := ⟨aM8, nM8, kM8⟩
  have FM9 := fun_mk (st := s_scPut) lM9 eM9 kM9
  have bM9 := FM9.binds (ps := ["self", "key", "begin", "end", "amount"]) (fun _ _ _ _ _ _ us hl => match us, hl with | [_, _, _, _, _], _ => rfl)
  have MM9 : Meth K CB "put_entry" g9 := ⟨aM9, nM9, kM9⟩
  have FM10 := fun_mk (st := s_scStretch) lM10 eM10 kM10
  have bM10 := FM10.binds (ps := ["self", "key", "end"]) (fun _ _ _ _ _ _ us hl => match us, hl with | [_, _, _], _ => rfl)
  have MM10 : Meth K CB "stretch_entry" g10 := ⟨aM10, nM10, kM10⟩
  have FM11 := fun_mk (st := s_scCut) lM11 eM11 kM11
  have bM11 := FM11.binds (ps := ["self", "key", "time"]) (fun _ _ _ _ _ _ us hl => match us, hl with | [_, _, _], _ => rfl)
  have MM11 : Meth K CB "cut_entry" g11 := ⟨aM11, nM11, kM11⟩
  have FM12 := fun_mk (st := s_scPast) lM12 eM12 kM12
  have bM12 := FM12.binds (ps := ["self", "time"]) (fun _ _ _ _ _ _ us hl => match us, hl with | [_, _], _ => rfl)
  have MM12 : Meth K CB "drop_past" g12 := ⟨aM12, nM12, kM12⟩
  have FM13 := fun_mk (st := s_scInit) lM13 eM13 kM13
  have bM13 := FM13.binds (ps := ["self", "room"]) (fun _ _ _ _ _ _ us hl => match us, hl with | [_, _], _ => rfl)
  have MM13 : Meth K CB "__init__" g13 := ⟨aM13, nM13, kM13⟩
  have FM14 := fun_mk (st := s_scTwin) lM14 eM14 kM14
  have bM14 := FM14.binds (ps := ["self"]) (fun _ _ _ _ _ _ us hl => match us, hl with | [_], _ => rfl)
  have MM14 : Meth K CB "twin_book" g14 := ⟨aM14, nM14, kM14⟩
  have w1 := PySem.W.mg_of X G y1
  have w2 := PySem.W.mg_of X G y2
  have W : Txt mg := ⟨PySem.W.mg_none_of X G z1, PySem.W.mg_none_of X G z2, PySem.W.mg_none_of X G z3, PySem.W.mg_none_of X G z4, PySem.W.mg_none_of X G z5, PySem.W.mg_none_of X G z6, PySem.W.mg_none_of X G z7, PySem.W.mg_none_of X G z8, PySem.W.mg_none_of X G z9, PySem.W.mg_none_of X G z10, PySem.W.mg_none_of X G z11, PySem.W.mg_none_of X G z12, PySem.W.mg_none_of X G z13⟩
  have q_sorted := PySem.W.mg_none_of X G z14
  have q_any := PySem.W.mg_none_of X G z15
  have q_ValueError := PySem.W.mg_none_of X G z16
  have q_super := PySem.W.mg_none_of X G z17
  have q_dict := PySem.W.mg_none_of X G z18
  have R := refsBK_ok hR
  have GG : RefGK mg (fun i => [E0, E1, E2, E3, E4, E5, E6, E7, E8, E9, E10, E11, E12].getD i 0) := ⟨PySem.W.mg_of X G x0, PySem.W.mg_of X G x1, PySem.W.mg_of X G x2, PySem.W.mg_of X G x3, PySem.W.mg_of X G x4, PySem.W.mg_of X G x5, PySem.W.mg_of X G x6, PySem.W.mg_of X G x7, PySem.W.mg_of X G x8, PySem.W.mg_of X G x9, PySem.W.mg_of X G x10, PySem.W.mg_of X G x11, PySem.W.mg_of X G x12⟩
  have xp0 : ExcP K mg "Taken" E0 := excPB_ok (PySem.W.mg_of X G x0) h0
  have xp1 : ExcP K mg "NoKey" E1 := excPB_ok (PySem.W.mg_of X G x1) h1
  obtain ⟨c, mkB⟩ := bookB_ok hB
  have mk := mkB _ aM13 nM13
  have mBook := PySem.W.mg_of X G xB
  refine ⟨PySem.W.fnOf "law" "law" (defArgs s_scKLaw) (defBody s_scKLaw) (defScope s_scKLaw) .none kV34 dc34 pm34 an34 cd34 ct34, [(c4, T4)], spLaw K [T4], fun p hp => ?_, fun p hp => ?_, fun p hp => ?_, fun s v => .of_eq rfl, fun H a ns hl _ hT hS => ⟨a, ns, rfl, hS, hl, fun T hm => ?_, fun _ => rfl⟩, fun base _ _ TB => ?_⟩
  · have e := List.mem_singleton.mp hp
    rw [e]; exact g4x
  · have e := List.mem_singleton.mp hp
    rw [e]; exact n4
  · have e := List.mem_singleton.mp hp
    rw [e]; exact h4x
  · have e := List.mem_singleton.mp hm
    rw [e]; exact ⟨#[], hT (c4, T4) List.mem_cons_self, trivial⟩
  · obtain ⟨p1, p2, p3⟩ := TB (c4, T4) List.mem_cons_self
    have B4 : GxR.TabB base mg c4 T4 := ⟨p1, p2, p3⟩
    have G__law_box := ok_box (P := l.prog) (w := w) (K := K) (mg := mg) (base := base) (k := 0) F9 W
    have G__law_take := ok_take (P := l.prog) (w := w) (K := K) (mg := mg) (base := base) (k := 0) F10
    have G__law_number := ok_number (P := l.prog) (w := w) (K := K) (mg := mg) (base := base) (k := 1) F11 W G__law_take m10 F10.kp b10
    have G__law_amount := ok_amount (P := l.prog) (w := w) (K := K) (mg := mg) (base := base) (k := 2) F12 W G__law_number m11 F11.kp b11
    have G__law_keeping := ok_keeping (P := l.prog) (w := w) (K := K) (mg := mg) (base := base) (k := 3) F14 W (FnOk.mono (k := 3) G__law_take (by decide)) m10 F10.kp b10 G__law_amount m12 F12.kp b12
    have G__law_alike := (ok_alkS (P := l.prog) (w := w) (K := K) (mg := mg) (base := base) (n := 2) F27 W m27 F27.kp b27 (ok_alkS (P := l.prog) (w := w) (K := K) (mg := mg) (base := base) (n := 1) F27 W m27 F27.kp b27 (ok_alkS (P := l.prog) (w := w) (K := K) (mg := mg) (base := base) (n := 0) F27 W m27 F27.kp b27 (ok_alk0 (P := l.prog) (w := w) (K := K) (mg := mg) (base := base) (k := 0) F27 W))))
    have G_nothing_of := ok_nothing (P := l.prog) (w := w) (K := K) (mg := mg) (base := base) (k := 0) F1
    have G_turns_of := ok_turns (P := l.prog) (w := w) (K := K) (mg := mg) (base := base) (k := 0) F6 q_sorted w2 w1
    have G_amount_sum := ok_sum (P := l.prog) (w := w) (K := K) (mg := mg) (base := base) (k := 0) F2 W
    have G_amount_less := ok_less (P := l.prog) (w := w) (K := K) (mg := mg) (base := base) (k := 0) F3 W
    have G_loads_of := ok_loads (P := l.prog) (w := w) (K := K) (mg := mg) (base := base) (k := 1) F7 W w2 G_nothing_of m1 F1.kp b1 G_turns_of m6 F6.kp b6 G_amount_sum m2 F2.kp b2 G_amount_less m3 F3.kp b3
    have G_amount_fits := ok_fits (P := l.prog) (w := w) (K := K) (mg := mg) (base := base) (k := 0) C4 W B4
    have G_first_over := ok_first (P := l.prog) (w := w) (K := K) (mg := mg) (base := base) (k := 2) (Ts := [T4]) (T := T4) (by simp) F8 W G_loads_of m7 F7.kp b7 (FnOk.mono (k := 2) G_amount_fits (by decide)) m4 F4.kp b4
    have G_Book_keep_entry := ok_keep (P := l.prog) (w := w) (K := K) (mg := mg) (base := base) (k := 2) (Ts := [T4]) FM8 c (excT_of (k := 2) la2 lb2 lc2 ld2 le2 lg2 lh2 li2 q_super xT lj2 (PySem.W.mg_of X G x2)) G_first_over m8 F8.kp b8
    have G_Book_put_entry := ok_put (P := l.prog) (w := w) (K := K) (mg := mg) (base := base) (k := 4) (Ts := [T4]) FM9 c xp0 G_Book_keep_entry MM8 bM8
    have G_Book_entry_of := ok_eof (P := l.prog) (w := w) (K := K) (mg := mg) (base := base) (k := 0) FM6 c xp1
    have G_Book_drop_entry := ok_drop (P := l.prog) (w := w) (K := K) (mg := mg) (base := base) (k := 1) FM7 c G_Book_entry_of MM6 bM6
    have G_Book_cut_entry := ok_cut (P := l.prog) (w := w) (K := K) (mg := mg) (base := base) (k := 2) FM11 c (FnOk.mono (k := 2) G_Book_entry_of (by decide)) MM6 bM6 G_Book_drop_entry MM7 bM7
    have G_Book_stretch_entry := ok_stretch (P := l.prog) (w := w) (K := K) (mg := mg) (base := base) (k := 4) (Ts := [T4]) FM10 c (FnOk.mono (k := 4) G_Book_entry_of (by decide)) MM6 bM6 G_Book_keep_entry MM8 bM8
    have G_Book_entry_rows := ok_erows (P := l.prog) (w := w) (K := K) (mg := mg) (base := base) (k := 0) FM1 q_sorted c
    have G_Book_drop_past := ok_past (P := l.prog) (w := w) (K := K) (mg := mg) (base := base) (k := 2) FM12 c (FnOk.mono (k := 2) G_Book_entry_rows (by decide)) MM1 bM1 G_Book_drop_entry MM7 bM7
    have G__law_called := ok_kcall (P := l.prog) (w := w) (K := K) (mg := mg) (base := base) (k := 5) (Ts := [T4]) (TM := E2) (TK := E0) (N := E1) F24 c G_Book_put_entry MM9 bM9 (FnOk.mono (k := 5) G_Book_cut_entry (by decide)) MM11 bM11 G_Book_stretch_entry MM10 bM10 (FnOk.mono (k := 5) G_Book_drop_entry (by decide)) MM7 bM7 (FnOk.mono (k := 5) G_Book_drop_past (by decide)) MM12 bM12
    have G__law_word := ok_kword (P := l.prog) (w := w) (K := K) (mg := mg) (base := base) (k := 0) (c := fun i => [E0, E1, E2, E3, E4, E5, E6, E7, E8, E9, E10, E11, E12].getD i 0) F25 W R GG q_ValueError
    have G__law_told := ok_ktold (P := l.prog) (w := w) (K := K) (mg := mg) (base := base) (k := 6) (Ts := [T4]) (c := fun i => [E0, E1, E2, E3, E4, E5, E6, E7, E8, E9, E10, E11, E12].getD i 0) F26 W R GG G__law_called m24 F24.kp b24 (FnOk.mono (k := 6) G__law_word (by decide)) m25 F25.kp b25
    have G__law_edges := ok_edges (P := l.prog) (w := w) (K := K) (mg := mg) (base := base) (k := 0) F15 q_sorted
    have G__law_load := ok_kload (P := l.prog) (w := w) (K := K) (mg := mg) (base := base) (k := 0) F19 W
    have G__law_first_more := ok_kmore (P := l.prog) (w := w) (K := K) (mg := mg) (base := base) (k := 1) F20 W q_any G__law_edges m15 F15.kp b15 G__law_load m19 F19.kp b19
    have G__law_put_due := ok_kpdue (P := l.prog) (w := w) (K := K) (mg := mg) (base := base) (k := 2) F23 G__law_first_more m20 F20.kp b20
    have G__law_due := ok_kdue (P := l.prog) (w := w) (K := K) (mg := mg) (base := base) (k := 3) F22 W q_sorted (FnOk.mono (k := 3) G__law_first_more (by decide)) m20 F20.kp b20 G__law_put_due m23 F23.kp b23
    have G_Book_whole_room := ok_wroom (P := l.prog) (w := w) (K := K) (mg := mg) (base := base) (k := 0) FM2 c
    have G__law_rows_due := ok_krows (P := l.prog) (w := w) (K := K) (mg := mg) (base := base) (k := 0) F28 q_sorted
    have G__law_stands := ok_kst (P := l.prog) (w := w) (K := K) (mg := mg) (base := base) (k := 4) F29 c (FnOk.mono (k := 4) G_Book_entry_rows (by decide)) MM1 bM1 (FnOk.mono (k := 4) G_Book_whole_room (by decide)) MM2 bM2 (FnOk.mono (k := 4) G__law_rows_due (by decide)) m28 F28.kp b28 G__law_alike m27 F27.kp b27
    have G__law_goes := ok_kgoes (P := l.prog) (w := w) (K := K) (mg := mg) (base := base) (k := 7) (Ts := [T4]) F30 (FnOk.mono (k := 7) G__law_alike (by decide)) m27 F27.kp b27 G__law_told m26 F26.kp b26 (FnOk.mono (k := 7) G__law_due (by decide)) m22 F22.kp b22 (FnOk.mono (k := 7) G__law_stands (by decide)) m29 F29.kp b29
    have G__law_name := ok_name (P := l.prog) (w := w) (K := K) (mg := mg) (base := base) (k := 0) F13
    have G__law_time := ok_time (P := l.prog) (w := w) (K := K) (mg := mg) (base := base) (k := 2) F16 W (FnOk.mono (k := 2) G__law_take (by decide)) m10 F10.kp b10 (FnOk.mono (k := 2) G__law_edges (by decide)) m15 F15.kp b15 G__law_number m11 F11.kp b11
    have G__law_span := ok_span (P := l.prog) (w := w) (K := K) (mg := mg) (base := base) (k := 3) F17 W (FnOk.mono (k := 3) G__law_take (by decide)) m10 F10.kp b10 G__law_time m16 F16.kp b16
    have G__law_wanted := ok_wanted (P := l.prog) (w := w) (K := K) (mg := mg) (base := base) (k := 3) F18 W (FnOk.mono (k := 3) G__law_take (by decide)) m10 F10.kp b10 G__law_amount m12 F12.kp b12
    have G__law_deed := ok_kdeed (P := l.prog) (w := w) (K := K) (mg := mg) (base := base) (k := 4) F21 W q_sorted (FnOk.mono (k := 4) G__law_take (by decide)) m10 F10.kp b10 (FnOk.mono (k := 4) G__law_name (by decide)) m13 F13.kp b13 G__law_span m17 F17.kp b17 G__law_wanted m18 F18.kp b18 (FnOk.mono (k := 4) G__law_time (by decide)) m16 F16.kp b16
    have G__law_filled := ok_kfill (P := l.prog) (w := w) (K := K) (mg := mg) (base := base) (k := 8) (Ts := [T4]) F31 W G__law_goes m30 F30.kp b30 (FnOk.mono (k := 8) G__law_deed (by decide)) m21 F21.kp b21
    have G_Book_load_at := ok_loadat (P := l.prog) (w := w) (K := K) (mg := mg) (base := base) (k := 1) FM3 W c G_nothing_of m1 F1.kp b1 G_amount_sum m2 F2.kp b2
    have G__law_by_times := ok_byt (P := l.prog) (w := w) (K := K) (mg := mg) (base := base) (k := 4) (Ts := [T4]) F32 W c G__law_alike m27 F27.kp b27 (FnOk.mono (k := 4) G__law_load (by decide)) m19 F19.kp b19 (FnOk.mono (k := 4) G_Book_load_at (by decide)) MM3 bM3
    have G_Book_left_rows := ok_lrows (P := l.prog) (w := w) (K := K) (mg := mg) (base := base) (k := 2) FM4 W c (FnOk.mono (k := 2) G_Book_entry_rows (by decide)) MM1 bM1 G_loads_of m7 F7.kp b7 (FnOk.mono (k := 2) G_amount_less (by decide)) m3 F3.kp b3
    have G_amount_least := ok_aleast (P := l.prog) (w := w) (K := K) (mg := mg) (base := base) (k := 0) F5 W
    have G_Book_left_over := ok_lover (P := l.prog) (w := w) (K := K) (mg := mg) (base := base) (k := 3) FM5 c G_Book_left_rows MM4 bM4 (FnOk.mono (k := 3) G_amount_least (by decide)) m5 F5.kp b5
    have G_BookX_initX := ok_init (P := l.prog) (w := w) (K := K) (mg := mg) (base := base) (k := 0) FM13 c
    have G_Book_twin_book := ok_twin (P := l.prog) (w := w) (K := K) (mg := mg) (base := base) (k := 1) FM14 c mk mBook q_dict G_BookX_initX bM13
    have G__law_just_fits := ok_just (P := l.prog) (w := w) (K := K) (mg := mg) (base := base) (k := 7) (Ts := [T4]) F33 W c G__law_told m26 F26.kp b26 (FnOk.mono (k := 7) G_Book_twin_book (by decide)) MM14 bM14
    exact ok_law (P := l.prog) (w := w) (K := K) (mg := mg) (base := base) (k := 8) (Ts := [T4]) F34 W c mk mBook (FnOk.mono (k := 8) G_BookX_initX (by decide)) bM13 (FnOk.mono (k := 9) G__law_box (by decide)) m9 F9.kp b9 (FnOk.mono (k := 9) G__law_keeping (by decide)) m14 F14.kp b14 (FnOk.mono (k := 9) G__law_take (by decide)) m10 F10.kp b10 G__law_filled m31 F31.kp b31 (FnOk.mono (k := 9) G__law_span (by decide)) m17 F17.kp b17 (FnOk.mono (k := 9) G__law_by_times (by decide)) m32 F32.kp b32 (FnOk.mono (k := 9) G__law_alike (by decide)) m27 F27.kp b27 (FnOk.mono (k := 9) G_Book_left_over (by decide)) MM5 bM5 (FnOk.mono (k := 9) G__law_just_fits (by decide)) m33 F33.kp b33 q_any
end My
open PySem PySem.W PyProof.Rows
set_option maxHeartbeats 0 in
theorem PySem.Challenge.cw_clusterhall_k11_left_over_holds : PySem.Challenge.rw_clusterhall_k11_left_over.Holds := by
  w_on; o_law; k_head; (case hw => w_witness2)
  k_fill
  refine My.walk_tabs (l := PySem.Challenge.rw_clusterhall_k11_left_over) (n := 63) (k := 10) (x := "_law_script") rfl (by decide) rfl ⟨rfl, by decide, by decide⟩ (fun w h Y => PySem.W.kIn_of Y) ?F
  case F =>
    intro w mg mb mean fa h KT KX hmg
    refine' My.all_mk KX KT hmg ?a1 ?l1 ?e1 ?k1 ?a2 ?l2 ?e2 ?k2 ?a3 ?l3 ?e3 ?k3 ?a4 ?l4 ?e4 ?k4 ?u4 ?v4 ?n4 ?r4 ?a5 ?l5 ?e5 ?k5 ?a6 ?l6 ?e6 ?k6 ?a7 ?l7 ?e7 ?k7 ?a8 ?l8 ?e8 ?k8 ?a9 ?l9 ?e9 ?k9 ?a10 ?l10 ?e10 ?k10 ?a11 ?l11 ?e11 ?k11 ?a12 ?l12 ?e12 ?k12 ?a13 ?l13 ?e13 ?k13 ?a14 ?l14 ?e14 ?k14 ?a15 ?l15 ?e15 ?k15 ?a16 ?l16 ?e16 ?k16 ?a17 ?l17 ?e17 ?k17 ?a18 ?l18 ?e18 ?k18 ?a19 ?l19 ?e19 ?k19 ?a20 ?l20 ?e20 ?k20 ?a21 ?l21 ?e21 ?k21 ?a22 ?l22 ?e22 ?k22 ?a23 ?l23 ?e23 ?k23 ?a24 ?l24 ?e24 ?k24 ?a25 ?l25 ?e25 ?k25 ?a26 ?l26 ?e26 ?k26 ?a27 ?l27 ?e27 ?k27 ?a28 ?l28 ?e28 ?k28 ?a29 ?l29 ?e29 ?k29 ?a30 ?l30 ?e30 ?k30 ?a31 ?l31 ?e31 ?k31 ?a32 ?l32 ?e32 ?k32 ?a33 ?l33 ?e33 ?k33 ?a34 ?l34 ?e34 ?k34 ?z1 ?z2 ?z3 ?z4 ?z5 ?z6 ?z7 ?z8 ?z9 ?z10 ?z11 ?z12 ?z13 ?z14 ?z15 ?z16 ?z17 ?z18 ?y1 ?y2 ?x0 ?x1 ?x2 ?x3 ?x4 ?x5 ?x6 ?x7 ?x8 ?x9 ?x10 ?x11 ?x12 ?xT ?hR ?h0 ?h1 ?la2 ?lb2 ?ii2 ?lc2 ?ld2 ?le2 ?lg2 ?lh2 ?li2 ?lj2 ?xB ?hB ?aM1 ?lM1 ?eM1 ?kM1 ?nM1 ?aM2 ?lM2 ?eM2 ?kM2 ?nM2 ?aM3 ?lM3 ?eM3 ?kM3 ?nM3 ?aM4 ?lM4 ?eM4 ?kM4 ?nM4 ?aM5 ?lM5 ?eM5 ?kM5 ?nM5 ?aM6 ?lM6 ?eM6 ?kM6 ?nM6 ?aM7 ?lM7 ?eM7 ?kM7 ?nM7 ?aM8 ?lM8 ?eM8 ?kM8 ?nM8 ?aM9 ?lM9 ?eM9 ?kM9 ?nM9 ?aM10 ?lM10 ?eM10 ?kM10 ?nM10 ?aM11 ?lM11 ?eM11 ?kM11 ?nM11 ?aM12 ?lM12 ?eM12 ?kM12 ?nM12 ?aM13 ?lM13 ?eM13 ?kM13 ?nM13 ?aM14 ?lM14 ?eM14 ?kM14 ?nM14
    (case a1 => k_is)
    (case l1 => k_is)
    (case e1 => k_is)
    (case k1 => k_is)
    (case a2 => k_is)
    (case l2 => k_is)
    (case e2 => k_is)
    (case k2 => k_is)
    (case a3 => k_is)
    (case l3 => k_is)
    (case e3 => k_is)
    (case k3 => k_is)
    (case a4 => k_is)
    (case l4 => k_is)
    (case e4 => k_is)
    (case k4 => k_is)
    (case u4 => k_is)
    (case v4 => rfl)
    (case n4 => first | rfl | decide | (with_unfolding_all rfl))
    (case r4 => decide +kernel)
    (case a5 => k_is)
    (case l5 => k_is)
    (case e5 => k_is)
    (case k5 => k_is)
    (case a6 => k_is)
    (case l6 => k_is)
    (case e6 => k_is)
    (case k6 => k_is)
    (case a7 => k_is)
    (case l7 => k_is)
    (case e7 => k_is)
    (case k7 => k_is)
    (case a8 => k_is)
    (case l8 => k_is)
    (case e8 => k_is)
    (case k8 => k_is)
    (case a9 => k_is)
    (case l9 => k_is)
    (case e9 => k_is)
    (case k9 => k_is)
    (case a10 => k_is)
    (case l10 => k_is)
    (case e10 => k_is)
    (case k10 => k_is)
    (case a11 => k_is)
    (case l11 => k_is)
    (case e11 => k_is)
    (case k11 => k_is)
    (case a12 => k_is)
    (case l12 => k_is)
    (case e12 => k_is)
    (case k12 => k_is)
    (case a13 => k_is)
    (case l13 => k_is)
    (case e13 => k_is)
    (case k13 => k_is)
    (case a14 => k_is)
    (case l14 => k_is)
    (case e14 => k_is)
    (case k14 => k_is)
    (case a15 => k_is)
    (case l15 => k_is)
    (case e15 => k_is)
    (case k15 => k_is)
    (case a16 => k_is)
    (case l16 => k_is)
    (case e16 => k_is)
    (case k16 => k_is)
    (case a17 => k_is)
    (case l17 => k_is)
    (case e17 => k_is)
    (case k17 => k_is)
    (case a18 => k_is)
    (case l18 => k_is)
    (case e18 => k_is)
    (case k18 => k_is)
    (case a19 => k_is)
    (case l19 => k_is)
    (case e19 => k_is)
    (case k19 => k_is)
    (case a20 => k_is)
    (case l20 => k_is)
    (case e20 => k_is)
    (case k20 => k_is)
    (case a21 => k_is)
    (case l21 => k_is)
    (case e21 => k_is)
    (case k21 => k_is)
    (case a22 => k_is)
    (case l22 => k_is)
    (case e22 => k_is)
    (case k22 => k_is)
    (case a23 => k_is)
    (case l23 => k_is)
    (case e23 => k_is)
    (case k23 => k_is)
    (case a24 => k_is)
    (case l24 => k_is)
    (case e24 => k_is)
    (case k24 => k_is)
    (case a25 => k_is)
    (case l25 => k_is)
    (case e25 => k_is)
    (case k25 => k_is)
    (case a26 => k_is)
    (case l26 => k_is)
    (case e26 => k_is)
    (case k26 => k_is)
    (case a27 => k_is)
    (case l27 => k_is)
    (case e27 => k_is)
    (case k27 => k_is)
    (case a28 => k_is)
    (case l28 => k_is)
    (case e28 => k_is)
    (case k28 => k_is)
    (case a29 => k_is)
    (case l29 => k_is)
    (case e29 => k_is)
    (case k29 => k_is)
    (case a30 => k_is)
    (case l30 => k_is)
    (case e30 => k_is)
    (case k30 => k_is)
    (case a31 => k_is)
    (case l31 => k_is)
    (case e31 => k_is)
    (case k31 => k_is)
    (case a32 => k_is)
    (case l32 => k_is)
    (case e32 => k_is)
    (case k32 => k_is)
    (case a33 => k_is)
    (case l33 => k_is)
    (case e33 => k_is)
    (case k33 => k_is)
    (case a34 => k_is)
    (case l34 => k_is)
    (case e34 => k_is)
    (case k34 => k_is)
    (case z1 => k_is)
    (case z2 => k_is)
    (case z3 => k_is)
    (case z4 => k_is)
    (case z5 => k_is)
    (case z6 => k_is)
    (case z7 => k_is)
    (case z8 => k_is)
    (case z9 => k_is)
    (case z10 => k_is)
    (case z11 => k_is)
    (case z12 => k_is)
    (case z13 => k_is)
    (case z14 => k_is)
    (case z15 => k_is)
    (case z16 => k_is)
    (case z17 => k_is)
    (case z18 => k_is)
    (case y1 => k_is)
    (case y2 => k_is)
    (case x0 => k_is)
    (case x1 => k_is)
    (case x2 => k_is)
    (case x3 => k_is)
    (case x4 => k_is)
    (case x5 => k_is)
    (case x6 => k_is)
    (case x7 => k_is)
    (case x8 => k_is)
    (case x9 => k_is)
    (case x10 => k_is)
    (case x11 => k_is)
    (case x12 => k_is)
    (case xT => first | rfl | decide +kernel)
    (case hR => kernel_rfl)
    (case h0 => kernel_rfl)
    (case h1 => kernel_rfl)
    (case la2 => k_is)
    (case lb2 => first | rfl | decide +kernel)
    (case ii2 => k_is)
    (case lc2 => k_is)
    (case ld2 => k_is)
    (case le2 => k_is)
    (case lg2 => rfl)
    (case lh2 => first | rfl | decide +kernel)
    (case li2 => k_is)
    (case lj2 => kernel_rfl)
    (case xB => k_is)
    (case hB => kernel_rfl)
    (case aM1 => k_is)
    (case lM1 => k_is)
    (case eM1 => k_is)
    (case kM1 => k_is)
    (case nM1 => first | k_is | kernel_rfl)
    (case aM2 => k_is)
    (case lM2 => k_is)
    (case eM2 => k_is)
    (case kM2 => k_is)
    (case nM2 => first | k_is | kernel_rfl)
    (case aM3 => k_is)
    (case lM3 => k_is)
    (case eM3 => k_is)
    (case kM3 => k_is)
    (case nM3 => first | k_is | kernel_rfl)
    (case aM4 => k_is)
    (case lM4 => k_is)
    (case eM4 => k_is)
    (case kM4 => k_is)
    (case nM4 => first | k_is | kernel_rfl)
    (case aM5 => k_is)
    (case lM5 => k_is)
    (case eM5 => k_is)
    (case kM5 => k_is)
    (case nM5 => first | k_is | kernel_rfl)
    (case aM6 => k_is)
    (case lM6 => k_is)
    (case eM6 => k_is)
    (case kM6 => k_is)
    (case nM6 => first | k_is | kernel_rfl)
    (case aM7 => k_is)
    (case lM7 => k_is)
    (case eM7 => k_is)
    (case kM7 => k_is)
    (case nM7 => first | k_is | kernel_rfl)
    (case aM8 => k_is)
    (case lM8 => k_is)
    (case eM8 => k_is)
    (case kM8 => k_is)
    (case nM8 => first | k_is | kernel_rfl)
    (case aM9 => k_is)
    (case lM9 => k_is)
    (case eM9 => k_is)
    (case kM9 => k_is)
    (case nM9 => first | k_is | kernel_rfl)
    (case aM10 => k_is)
    (case lM10 => k_is)
    (case eM10 => k_is)
    (case kM10 => k_is)
    (case nM10 => first | k_is | kernel_rfl)
    (case aM11 => k_is)
    (case lM11 => k_is)
    (case eM11 => k_is)
    (case kM11 => k_is)
    (case nM11 => first | k_is | kernel_rfl)
    (case aM12 => k_is)
    (case lM12 => k_is)
    (case eM12 => k_is)
    (case kM12 => k_is)
    (case nM12 => first | k_is | kernel_rfl)
    (case aM13 => k_is)
    (case lM13 => k_is)
    (case eM13 => k_is)
    (case kM13 => k_is)
    (case nM13 => first | k_is | kernel_rfl)
    (case aM14 => k_is)
    (case lM14 => k_is)
    (case eM14 => k_is)
    (case kM14 => k_is)
    (case nM14 => first | k_is | kernel_rfl)

