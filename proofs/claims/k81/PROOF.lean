import PyProof.Rows.All
import Wide.All
import OpenK.AllK
import Wide.FinOn
import KE.KStateDown
import Lean
import PyProof.ReprRoads
import HandS.ForMost
import HandS.ForExc
import HandS.Codes
import HandS.Property
import HandS.ClsMeth
import HandS.IsInst
import HandS.Wide
import HandS.WideBits
import HandS.StrMore
import HandS.Deep
import HandS.Strs
import HandS.SortInts
import HandS.Defaults
import HandS.MakeKw
import HandS.MakeKwOnly
import HandS.TupAny
import HandS.Style
import HandS.Head0
import HandS.Head1
import HandS.Head2
import HandS.HeadEnd
import HandS.HeadHook1
import HandS.HeadHook2
import HandS.HeadHook3
import HandS.HeadHook4
import KE.KDictZip
import KE.KDictItemsList
import HandS.ListItems
import HandS.SlotsOwn
import HandS.SetFor
import HandS.ExcField
import PyProof.ReprLen
import HandS.SortKw
import KE.DataMinMax
import HandS.TryOnly
import HandS.ExcOwn
import HandS.SetKeys
import HandS.DictComp
import HandS.Iter
import HandS.Small
import HandS.RaiseMore
import KE.SortData
import HandS.RevRange
import HandS.Flow
import HandS.FStr
import HandS.Text
import HandS.ExcInit
import PySem.Challenge.RW_numberbooks_k81_logs_written_and_read
set_option Elab.async false
set_option linter.all false
set_option maxRecDepth 100000
set_option maxHeartbeats 4000000

namespace Nb
open PySem PySem.Spec PyProof.Rows L2

/-! ### heaps: what a step leaves as it was -/
/-- the drawing list: three whole numbers -/
def Feed (H : Hp) (fa : Addr) : Prop := ∃ x y z : Int, H fa = some (.lst [.int x, .int y, .int z])
/-- a step of a def that draws: all but the drawing list stands -/
structure Stp (fa : Addr) (H H' : Hp) : Prop where
  kp : ∀ b o, b ≠ fa → H b = some o → H' b = some o
  fd : Feed H' fa
theorem Stp.of {fa : Addr} {H H' : Hp} (e : Same H H') (f : Feed H fa) : Stp fa H H' := ⟨fun b o _ h => e b o h, by
  obtain ⟨x, y, z, h⟩ := f
  exact ⟨x, y, z, e _ _ h⟩⟩
theorem Stp.refl {fa : Addr} {H : Hp} (f : Feed H fa) : Stp fa H H := ⟨fun _ _ _ h => h, f⟩
theorem Stp.trans {fa : Addr} {H H1 H2 : Hp} (a : Stp fa H H1) (b : Stp fa H1 H2) : Stp fa H H2 := ⟨fun c o n h => b.kp c o n (a.kp c o n h), b.fd⟩
theorem Stp.same {fa : Addr} {H H1 H2 : Hp} (a : Stp fa H H1) (b : Same H1 H2) : Stp fa H H2 := a.trans (.of b a.fd)
theorem Stp.get {fa b : Addr} {H H' : Hp} {o : HO} (e : Stp fa H H') (n : b ≠ fa) (h : H b = some o) : H' b = some o := e.kp b o n h
theorem Stp.free {fa p : Addr} {H H' : Hp} (e : Stp fa H H') (n : p ≠ fa) (h : H' p = none) : H p = none := by
  cases q : H p with
  | none => rfl
  | some o =>
    rw [e.kp p o n q] at h
    cases h
theorem Feed.ne {H : Hp} {fa p : Addr} (f : Feed H fa) (h : H p = none) : p ≠ fa := by
  obtain ⟨x, y, z, e⟩ := f
  rintro rfl
  rw [h] at e
  cases e
theorem Stp.put {fa : Addr} {H H' : Hp} {x y z : Int} (e : Stp fa H H') : Stp fa H (upd H' fa (.lst [.int x, .int y, .int z])) :=
  ⟨fun b o n h => by rw [upd_ne n]; exact e.kp b o n h, ⟨x, y, z, upd_same⟩⟩
theorem Same.new {H H' : Hp} {p : Addr} {o : HO} (e : Same H H') (h : H' p = none) : Same H (upd H' p o) := fun b u q => by
  rw [upd_ne (ne_of_none (e b u q) h)]
  exact e b u q
theorem Same.mut {H H' : Hp} {p : Addr} {o : HO} (e : Same H H') (h : H p = none) : Same H (upd H' p o) := fun b u q => by
  rw [upd_ne (ne_of_none q h)]
  exact e b u q
theorem Stp.new {fa : Addr} {H H' : Hp} {p : Addr} {o : HO} (e : Stp fa H H') (h : H' p = none) : Stp fa H (upd H' p o) :=
  e.same (Same.new (Same.refl _) h)
theorem Stp.mut {fa : Addr} {H H' : Hp} {p : Addr} {o : HO} (e : Stp fa H H') (h : H p = none) (n : p ≠ fa) : Stp fa H (upd H' p o) :=
  ⟨fun b u nb q => by rw [upd_ne (ne_of_none q h)]; exact e.kp b u nb q, by
    obtain ⟨x, y, z, hf⟩ := e.fd
    exact ⟨x, y, z, by rw [upd_ne n.symm]; exact hf⟩⟩
theorem ne_ff {H : Hp} {a b : Addr} {o : HO} (h : H a = some o) (h' : H b = none) : b ≠ a := (ne_of_none h h').symm

end Nb

/-! ### the head: what the top has written, seen by a hook of one's own -/
namespace NbH
open PySem PySem.Spec PyProof.Rows L2
/-- a def by the path to its function object -/
structure DefA where
  way : PySem.W.Frag → Addr
  nam : Str
  qua : Str
  par : Arguments
  bod : List Stmt
  sco : Scope
def seeF (K : PySem.W.Frag) (a : Addr) : He.FnW := match K.lookup a with
  | some ⟨_, _, .func q, _⟩ => some (q.name, q.qualname, q.params, q.body, q.scope, q.globals, q.closure, q.builtins)
  | _ => none
def DefA.due (d : DefA) : He.FnW := some (d.nam, d.qua, d.par, .stmts d.bod, d.sco, mainGlobals, [], builtinsNs)
def DefA.fine (K : PySem.W.Frag) (d : DefA) : Bool := PySem.W.keepIn K (.ref (d.way K)) && (match K.lookup (d.way K) with
  | some ⟨_, _, .func q, _⟩ => PySem.W.codeIn K q.code d.qua && (He.dflB K q.defaults [] && He.kwdB K q.kwdefaults [])
  | _ => false)
abbrev DefA.Is (K : PySem.W.Frag) (d : DefA) (f : Addr) (q : FuncData) : Prop := FunD K d.nam d.qua d.par d.bod d.sco [] [] f q
theorem DefA.found {K : PySem.W.Frag} {d : DefA} (e : seeF K (d.way K) = d.due) (c : d.fine K = true) : ∃ q, d.Is K (d.way K) q := by
  unfold DefA.fine at c
  obtain ⟨hk, hc⟩ := He.ba c
  unfold seeF at e
  cases hl : K.lookup (d.way K) with
  | none => rw [hl] at hc; cases hc
  | some ob =>
    obtain ⟨cl, dc, da, sl⟩ := ob
    rw [hl] at hc e
    cases da with
    | func q =>
      cases q with
      | mk a1 a2 a3 a4 a5 a6 a7 a8 a9 b1 b2 b3 b4 b5 b6 =>
        unfold DefA.due at e
        simp only [Option.some.injEq, Prod.mk.injEq] at e
        obtain ⟨i1, i2, i3, i4, i5, i6, i7, i8⟩ := e
        subst i1 i2 i3 i4 i5 i6 i7 i8
        obtain ⟨j1, j2⟩ := He.ba hc
        obtain ⟨j3, j4⟩ := He.ba j2
        exact ⟨_, ⟨cl, dc, _, _, _, _, _, _, _, sl, rfl, hl, j1, He.dflB_ok j3, He.kwdB_ok j4⟩, hk⟩
    | _ => cases hc
abbrev Alp : Type := Bool × List He.FnW
def seeA (ex : PySem.W.Frag → Bool) (fs : List DefA) (K : PySem.W.Frag) : Alp := (ex K && fs.all fun d => d.fine K, fs.map fun d => seeF K (d.way K))
def dueA (fs : List DefA) : Alp := (true, fs.map DefA.due)
def seeG (n : Nat) (ex : PySem.W.Frag → Bool) (fs : List DefA) (g : Addr → Option Obj) : Alp := seeA ex fs (He.frG g (He.asD g n ++ [PySem.cStatics]))
def Told (ex : PySem.W.Frag → Bool) (fs : List DefA) (K : PySem.W.Frag) : Prop := seeA ex fs K = dueA fs
def hookA (n : Nat) (ex : PySem.W.Frag → Bool) (fs : List DefA) : PySem.W.Hook where
  α := Alp
  obs := fun s => seeG n ex fs s.heap.get?
  val := fun _ => dueA fs
  says := fun _ h => ∃ K : PySem.W.Frag, K.In h ∧ Told ex fs K
  of := fun _ _ q => ⟨_, He.frG_in, q⟩
  keeps := fun _ _ _ ⟨K, a, b⟩ c => ⟨K, PySem.W.Frag.In.keeps a c, b⟩
theorem seeG_eq {n : Nat} {ex : PySem.W.Frag → Bool} {fs : List DefA} {g : Addr → Option Obj} {s : Shared} (h : ∀ a, g a = s.heap.get? a) : seeG n ex fs g = (hookA n ex fs).obs s :=
  congrArg (seeG n ex fs) (funext h)
theorem Told.ex {ex : PySem.W.Frag → Bool} {fs : List DefA} {K : PySem.W.Frag} (c : Told ex fs K) : ex K = true := by
  have q : (ex K && fs.all fun d => d.fine K) = true := congrArg Prod.fst c
  exact (He.ba q).1
theorem Told.df {ex : PySem.W.Frag → Bool} {fs : List DefA} {K : PySem.W.Frag} (c : Told ex fs K) (i : Nat) {d : DefA} (h : fs[i]? = some d := by rfl) : ∃ q, d.Is K (d.way K) q := by
  have q : (ex K && fs.all fun d => d.fine K) = true := congrArg Prod.fst c
  have e : fs.map (fun d => seeF K (d.way K)) = fs.map DefA.due := congrArg Prod.snd c
  have e2 : (fs.map fun d => seeF K (d.way K))[i]? = (fs.map DefA.due)[i]? := congrArg (fun l => l[i]?) e
  simp only [List.getElem?_map, h, Option.map_some, Option.some.injEq] at e2
  exact DefA.found e2 (List.all_eq_true.mp (He.ba q).2 d (List.mem_of_getElem? h))
/-- a property's getter -/
def getterOf (K : PySem.W.Frag) (C f : Str) : Addr := match PySem.W.recIn K (He.ma K (He.ga K C) f) "property" with
  | some (.ref g :: _) => g
  | _ => 0
def propB (K : PySem.W.Frag) (C f : Str) : Bool :=
  He.eqO (PySem.W.findIn K (.ref (He.ga K C)) f) (some (some (.ref (He.ma K (He.ga K C) f)))) && (He.eqO (PySem.W.specialIn K (.ref (He.ma K (He.ga K C) f)) "__get__") (some (some (.builtin "property.__get__"))) &&
    (decide (PySem.W.takesIn K (.ref (He.ma K (He.ga K C) f)) = some true) && (match PySem.W.recIn K (He.ma K (He.ga K C) f) "property" with
      | some (.ref _ :: _) => true
      | _ => false)))
theorem propB_ok {K : PySem.W.Frag} {C f : Str} (h : propB K C f = true) : PropOf K (He.ga K C) f (He.ma K (He.ga K C) f) (getterOf K C f) := by
  obtain ⟨h1, h⟩ := He.ba h
  obtain ⟨h2, h⟩ := He.ba h
  obtain ⟨h3, h4⟩ := He.ba h
  refine ⟨He.eqO_ok h1, He.eqO_ok h2, of_decide_eq_true h3, ?_⟩
  unfold getterOf
  cases q : PySem.W.recIn K (He.ma K (He.ga K C) f) "property" with
  | none => rw [q] at h4; cases h4
  | some l =>
    rw [q] at h4
    cases l with
    | nil => cases h4
    | cons v r =>
      cases v with
      | ref a => exact ⟨r, rfl⟩
      | _ => cases h4
end NbH

set_option Elab.async false
set_option linter.all false
set_option maxRecDepth 100000
set_option maxHeartbeats 4000000
/-! Rules of my own over the layer: the text of data, a def that must know that no text is being made, own == and !=, properties by one word, len(set(texts)). -/
namespace NbR
open PySem PySem.Spec PyProof.Rows L2

/-! ### repr of data -/
section
variable {X : Cx}
def rRepD (K : PySem.W.Frag) : List V → Hp → VK → Prop := fun xs H Q => ∃ (a : Addr) (d : PyData), xs = [.ref a] ∧ Dp K H (.ref a) d ∧ d.showable = true ∧ d.hasDict = false ∧ d.depth ≤ 60 ∧ d.shown.length ≤ sizeLine ∧ Q (.str d.shown) H
theorem call_repD (hg : X.A.guards = some []) (hu : X.A.units + 64 < cLine) : CallR X (.builtin "repr") (rRepD X.K) := by
  intro pins s σ H xs us Q I r h
  obtain ⟨a, d, rfl, hd, hs, hn, hz, hl, q⟩ := h
  cases r with
  | cons r1 r2 =>
    cases r2
    cases r1
    obtain ⟨as, rd⟩ := Dp.reads I d (.ref a) (.ref a) hd rfl
    exact repr_of_reads' rd hs (fun z => absurd z (by rw [hn]; decide)) hg (by omega) (fun _ _ e => e) (fun h' u tk hk => ⟨.str d.shown, H, I.kept (t' := tk) hk, ⟨u, rfl⟩, q⟩) hl
end

/-! ### a def that is only called where no text is being made -/
structure FnG (P : Program) (w : World) (K : PySem.W.Frag) (mg : Str → Option Value) (base : Heap) (k : Nat) (f : Addr) (fd : FuncData) (ps : List Str) (sp : Sp) : Prop where
  many : ∀ vs H Q E, sp vs H Q E → vs.length = ps.length
  goes : ∀ (A : Around) (outer : List Env) (s : Shared) (H : Hp) (args : Args) (us : List Value) (vs : List V) (Q : VK) (E : XK), A.guards = some [] → Room k A → Env0 P w K mg base A outer s H → BindsTo s fd args (ps.zip us) → Vals vs us →
    sp vs H Q E → codeAny (model P w) A (.call (.ref f) args) (CR CX0 outer P w H s Q E) s
theorem guards_deeper (A : Around) (env : Env) (h : A.guards = some []) : (A.deeper env).guards = some [] := by
  first
    | exact h
    | (unfold Around.deeper; simpa using h)
    | (simp [Around.deeper, h])
theorem fnG_of {P : Program} {w : World} {K : PySem.W.Frag} {mg : Str → Option Value} {base : Heap} {x qual : Str} {params : Arguments} {body : List Stmt} {scope : Scope} {f : Addr} {fd : FuncData} {N ps : List Str} {k : Nat} {sp : Sp}
    (F : FunD K x qual params body scope [] [] f fd) (S : FnScope N ps scope) (len : ∀ vs H Q E, sp vs H Q E → vs.length = ps.length)
    (hb : ∀ (cdv : Value) (A : Around) (outer : List Env) (s : Shared) (H : Hp) (vs : List V) (Q : VK) (E : XK), (A.deeper (envOfC qual scope s.heap.objs.size f cdv)).guards = some [] → Room k (A.deeper (envOfC qual scope s.heap.objs.size f cdv)) → sp vs H Q E →
      ∃ t, PSs (cxOf CX0 P w K mg base N qual scope f cdv A outer s H E) body t ∧ t { nx := fun _ H' => Q .non H', rt := Q } (start N vs) H) : FnG P w K mg base (k + 1) f fd ps sp := by
  obtain ⟨oc, od, dV, kV, doc, pm, an, cdv, ct, osl, rfl, lk, hcd, _, _⟩ := F.ex
  refine ⟨len, fun A outer s H args us vs Q E hg hr e0 bnd rv hsp => ?_⟩
  have hlen := len _ _ _ _ hsp
  have inK : K.In s.heap := e0.mod.kin.keeps fun b o e => (e0.bs b o e).1
  have nolim : s.heap.NoLimit := e0.mod.nolimit.keeps fun b o e => (e0.bs b o e).1
  have kinds : ∀ y ∈ ps.zip us, scope.names.lookup y.1 = some .local ∨ (scope.names.lookup y.1 = some .cell ∧ ((cellsFrom (s.heap.objs.size + 1) scope.names []).lookup y.1).isSome = true) := by
    rintro ⟨y, v⟩ hy
    exact (S.par y (List.of_mem_zip hy).1).elim .inl fun q => .inr ⟨q, PySem.W.cellsFrom_some _ _ _ (.inl q)⟩
  refine codeAny_call_function hr.depth (inK _ _ lk) rfl S.co S.gen rfl (PySem.W.codeRec_of inK hcd) (bnd _ _ _ _ (wpAny_newFunctionEnv_cells S.kind kinds fun env he s1 x => ?_))
  subst he
  refine ⟨nolim.keeps x.toInCall.keep, codeAny_func ?_⟩
  obtain ⟨t, ht, hq⟩ := hb cdv A outer s H vs Q E (guards_deeper A _ hg) (hr.deeper _) hsp
  have J0 : Inv (cxOf CX0 P w K mg base N qual scope f cdv A outer s H E) [] (start N vs) H s1 := inv_start S hr.hd e0 hlen rv x
  refine wpAny_mono (ht.run [] s1 (start N vs) H _ J0 hq) (fun fl s' hs => ?_) fun e s' hs => hs
  cases fl with
  | ret u => obtain ⟨v, σ', H', J, r, q⟩ := hs; exact ⟨v, H', J.os, J.bare, J.base, J.hok, r, q⟩
  | next => obtain ⟨σ', H', J, q⟩ := hs; exact ⟨V.non, H', J.os, J.bare, J.base, J.hok, rfl, q⟩
  | brk => obtain ⟨_, _, _, q⟩ := hs; exact q.elim
  | cont => obtain ⟨_, _, _, q⟩ := hs; exact q.elim
/-- such a def as a constant of the module -/
structure CalG (P : Program) (w : World) (K : PySem.W.Frag) (mg : Str → Option Value) (base : Heap) (k : Nat) (x : Str) (sp : Sp) : Prop where
  ex : ∃ (f : Addr) (fd : FuncData) (ps : List Str), FnG P w K mg base k f fd ps sp ∧ mg x = some (.ref f) ∧ PySem.W.keepIn K (.ref f) = true ∧ Binds K fd ps []
section
variable {X : Cx} {k j : Nat} {sp : Sp} {x : Str} {p pos : Pos} {e : Expr} {es : List Expr} {t : TA}
theorem pe_cG (c : CalG X.prog X.w X.K X.mg X.base k x sp) (hg0 : X.A.guards = some []) (hr : Room j X.A) (hk : k ≤ j) (hg : Gl X x) (ha : PA X (e :: es) t) (hdb : (x == ("__debug__" : Str)) = false := by decide)
    (he : starEach (e :: es) X.env = (false, eval e X.env) :: starEach es X.env := by rfl) (hpl : (backTo pos (starEach es X.env)).any (·.1) = false := by rfl) : PE X (.Call (.Name x p) (e :: es) [] pos) (tCall sp [] E0 t) := by
  obtain ⟨f, fd, ps, F, hm, kp, b⟩ := c.ex
  refine ⟨fun pins s σ H Q I h => wpAny_Call_Name_kw (ld_glob I hg hm ?_ hdb)⟩
  refine PySem.W.callWith_K (h₀ := X.base) I.ok.mod.kin kp (thn (ha.run pos pins s σ H _ I h) fun us s1 z => ?_) he hpl
  obtain ⟨vs, H1, I1, r, q⟩ := z
  rw [List.append_nil] at q
  have hl : (us ++ []).length = ps.length := by rw [List.append_nil, ← r.length]; exact F.many _ _ _ _ q
  have hb := b s1 us I1.kIn hl
  rw [List.append_nil] at hb
  refine ⟨I1.kIn, wpAny_call (codeAny_mono (F.goes X.A X.stack s1 H1 ⟨us, []⟩ us vs Q E0 hg0 (hr.mono hk) I1.env0 hb r q) fun r s' hq => ?_)⟩
  cases r with
  | error e => exact hq.elim
  | ok fl => cases fl with
    | ret u => exact I1.after hq
    | _ => exact hq.elim
end
/-- the law's own call: as the layer's, for such a def -/
theorem lawG {l : PySem.W.OpenLaw} {n k : Nat} {q : Program} {loose : List Str} {XP : (Str → Option Value) → Heap → Prop} {YP : World → Heap → Prop} {d : DefRec} {x : Str}
    (hn : l.most = some n) (hn2 : n ≤ sizeLine) (hdf : d.params.defaults = []) (hr : Room k callerA)
    (F : ∀ (w : World) (mg : Str → Option Value) (fa : Addr) (h : Heap), YP w h → h.Ns mainGlobals mg → mg d.name = some (.ref fa) →
      ∃ (K : PySem.W.Frag) (fd : FuncData) (sp : Sp), K.In h ∧ (∀ (s : Shared) (u : Value), BindsTo s fd ⟨[u], []⟩ [(x, u)]) ∧
        (∀ (H : Hp) (a : Addr) (ns : List Int), ns.length ≤ n → SqL K H a (ns.map V.int) → sp [.ref a] H (fun v _ => v = .bl true) fun _ _ _ => False) ∧
        ∀ base : Heap, K.In base → base.Ns mainGlobals mg → FnG l.prog w K mg base k fa fd [x] sp) :
    PySem.W.WalkO q loose XP YP l.row.toRowW d [] (fun f vs => PySem.call f vs) := by
  refine Att.attach_call hn hdf fun w s₀ s1 mg mb fa o pm cd doc a us ns G Y ho hd hcd hmg hobj hints hlen hgen => ?_
  obtain ⟨K, fd, sp, KX, hbind, hsp, hF⟩ := F w mg fa _ Y G.T.g hmg
  have lenU := hints.length
  have rv : Vals (ns.map V.int) us := vals_ints hints
  have go : ∀ H : Hp, SqL K H a (ns.map V.int) → HOk l.prog w H s1.heap → (∀ b, H b = none ∨ (b = a ∧ K.lookup a = none ∧ H b = some (.frz { cls := .type "list", data := .seq us.toArray } (.lst (ns.map V.int))))) →
      codeAny (model l.prog w) callerA (.call (.ref fa) ⟨[.ref a], []⟩) (fun r s' => r = .ok (.ret (.bool true)) ∧ OldK s1.heap s'.heap ∧ s'.os = s1.os ∧ AllBare s'.gens) s1 := by
    intro H hS hok hA
    have hidden : ∀ {b : Addr} {m : Str → Option Value}, s1.heap.Ns b m → (hidT s1.heap H).Ns b m := by
      rintro b m ⟨ob, es, ep, e1, e2, e3⟩
      refine ⟨ob, es, ep, hidT_get e1 ?_, e2, e3⟩
      rcases hA b with z | ⟨rfl, _, _⟩
      · exact z
      · rw [hobj] at e1; cases e1; cases e2
    have hKb : K.In (hidT s1.heap H) := fun b ob e => hidT_get (KX b ob e) (by
      rcases hA b with z | ⟨rfl, z, _⟩
      · exact z
      · rw [z] at e; cases e)
    have hM : Mod K mg (hidT s1.heap H) := ⟨hKb, hidden G.T.g, ⟨mb, hidden G.T.b, G.T.builtins⟩, by
      obtain ⟨mc, z1, z2⟩ := G.T.nolimit
      exact ⟨mc, hidden z1, z2⟩⟩
    have e0 : Env0 l.prog w K mg (hidT s1.heap H) callerA [] s1 H := ⟨rfl, hM, fun b ob e => of_hidT e, Nat.le_of_eq (hidT_size _ _), trivial, fun b hb => absurd hb (List.not_mem_nil (a := b)), hok, .of_eq hgen⟩
    refine codeAny_mono ((hF _ hKb (hidden G.T.g)).goes callerA [] s1 H ⟨[.ref a], []⟩ [.ref a] [.ref a] (fun v _ => v = .bl true) (fun _ _ _ => False) rfl hr e0 (hbind s1 (.ref a)) (.cons rfl .nil) (hsp H a ns hlen hS)) fun r s' hq => ?_
    cases r with
    | error e => exact hq.elim
    | ok fl => cases fl with
      | ret u =>
        obtain ⟨v, H', z1, z2, un, hok', r', z⟩ := hq
        cases (show v = V.bl true from z)
        cases (show u = Value.bool true from r')
        refine ⟨rfl, OldK.of_keep fun b ob e => ?_, z1, z2⟩
        rcases hA b with y | ⟨rfl, _, y⟩
        · exact un.keep b ob e y (List.not_mem_nil (a := b)) (List.not_mem_nil (a := b))
        · have y2 := (hok' b _ (un.frzs b _ _ y)).1
          rw [hobj] at e; cases e
          exact y2
      | _ => exact hq.elim
  cases hk : K.lookup a with
  | some ob =>
    have e := KX a ob hk
    rw [hobj] at e; cases e
    exact go (fun _ => none) (.inr ⟨_, us.toArray, _, hk, rfl, rfl, rfl, by rw [List.size_toArray, lenU]; exact Nat.le_trans hlen hn2, by simpa using rv⟩) (fun b u z => by cases z) fun b => .inl rfl
  | none =>
    refine go (fun b => if b = a then some (.frz { cls := .type "list", data := .seq us.toArray } (.lst (ns.map V.int))) else none) (.inl (.inr ⟨{ cls := .type "list", data := .seq us.toArray }, if_pos rfl⟩)) (fun b u z => ?_) fun b => ?_
    · by_cases hb : b = a
      · subst hb
        have z' := (if_pos rfl).symm.trans z
        cases z'
        exact ⟨hobj, by rw [List.length_map]; exact Nat.le_trans hlen hn2, us, 0, rv, hobj⟩
      · have z' := (if_neg hb).symm.trans z
        cases z'
    · by_cases hb : b = a
      · exact .inr ⟨hb, hk, if_pos hb⟩
      · exact .inl (if_neg hb)
end NbR

set_option Elab.async false
set_option linter.all false
set_option maxRecDepth 100000
set_option maxHeartbeats 4000000
/-! list(zip(xs, ys)). -/
namespace NbB
open PySem PySem.Spec PyProof.Rows L2
theorem nolen_zip : typeLookup (.type "zip") "__len__" = pure none := am_miss_of_fast (by decide +kernel)
theorem nohint_zip : typeLookup (.type "zip") "__length_hint__" = pure none := am_miss_of_fast (by decide +kernel)
/-- the tuples that were given out -/
structure ZlG (xs ys : Array Value) (lo : Nat) (h : Heap) (as : List Nat) : Prop where
  rise : as.Pairwise (· < ·)
  above : ∀ a ∈ as, lo < a
  pairs : ∀ (j : Nat) (a : Nat), as[j]? = some a → ∃ x y, xs[j]? = some x ∧ ys[j]? = some y ∧ h.get? a = some { cls := .type "tuple", data := .seq #[x, y] }
structure ZSt (z TI TO i1 i2 l1 l2 S : Nat) (xs ys : Array Value) (h : Heap) (i : Nat) : Prop where
  ti : IsPair h TI (.ref i1) (.ref i2)
  h1 : h.IsListIter i1 l1 i
  h2 : h.IsListIter i2 l2 i
  l1 : h.IsList l1 xs
  l2 : h.IsList l2 ys
  st : (IsZip h z TI TO .none ∧ ∃ a b, IsPair h TO a b) ∨ ∃ T f oT, IsZipHeld h z TI TO T f ∧ h.get? T = some oT ∧ S < T
section
variable {prog : Program} {w : World} {A : Around} {E : Value → Shared → Prop} {s : Shared} {z TI TO i1 i2 l1 l2 S : Nat} {xs ys : Array Value} {i : Nat}
theorem ZSt.keep {h h' : Heap} (t : ZSt z TI TO i1 i2 l1 l2 S xs ys h i) (hS : z ≠ S ∧ TI ≠ S ∧ TO ≠ S ∧ i1 ≠ S ∧ i2 ≠ S ∧ l1 ≠ S ∧ l2 ≠ S) (k : ∀ (b : Nat) o, b ≠ S → h.get? b = some o → h'.get? b = some o) : ZSt z TI TO i1 i2 l1 l2 S xs ys h' i := by
  obtain ⟨n1, n2, n3, n4, n5, n6, n7⟩ := hS
  refine ⟨k _ _ n2 t.ti, t.h1.at fun o e => k _ _ n4 e, t.h2.at fun o e => k _ _ n5 e, t.l1.at fun o e => k _ _ n6 e, t.l2.at fun o e => k _ _ n7 e, ?_⟩
  rcases t.st with ⟨a, x, y, b⟩ | ⟨T, f, oT, a, b, c⟩
  · exact .inl ⟨k _ _ n1 a, x, y, k _ _ n3 b⟩
  · exact .inr ⟨T, f, oT, k _ _ n1 a, k _ _ (Nat.ne_of_gt c) b, c⟩
theorem zl_item {Q : Option Value → Shared → Prop} (D : ZipApart z TI TO i1 i2 l1 l2) (t : ZSt z TI TO i1 i2 l1 l2 S xs ys s.heap i) (hz : z < S ∧ TI < S ∧ TO < S ∧ i1 < S ∧ i2 < S) (hS : S < s.heap.objs.size) {x y : Value} (hx : xs[i]? = some x) (hy : ys[i]? = some y)
    (hQ : ∀ h', ZSt z TI TO i1 i2 l1 l2 S xs ys h' (i + 1) → h'.get? s.heap.objs.size = some { cls := .type "tuple", data := .seq #[x, y] } → h'.objs.size = s.heap.objs.size + 1 →
      (∀ (c : Nat) o, c ≠ z → c ≠ TO → c ≠ i1 → c ≠ i2 → s.heap.get? c = some o → h'.get? c = some o) → Q (some (.ref s.heap.objs.size)) { s with heap := h' }) : wpAny (model prog w) A (pyNext (.ref z)) Q E s := by
  obtain ⟨ti, h1, h2, g1, g2, st⟩ := t
  obtain ⟨z1, z2, z3, z4, z5⟩ := hz
  rcases st with ⟨a, u, v, b⟩ | ⟨T, f, oT, a, b, c⟩
  · refine wpAny_pyNext_zip_item D a ti b h1 h2 g1 g2 hx hy fun h' k1 k2 k3 k4 k5 k6 k7 => hQ h' ⟨k7 _ _ D.TIz D.TITO D.TIi1 D.TIi2 ti, k3, k4, g1.at fun o e => k7 _ _ D.l1z D.l1TO D.l1i1 D.l1i2 e, g2.at fun o e => k7 _ _ D.l2z D.l2TO D.l2i1 D.l2i2 e, .inr ⟨_, false, _, k1, k5, hS⟩⟩ k5 k6 k7
  · have n : ∀ d : Nat, d < S → T ≠ d := fun d hd => Nat.ne_of_gt (Nat.lt_trans hd c)
    refine wpAny_pyNext_zip_item_held D a b ti h1 h2 g1 g2 hx hy fun h' k1 k3 k4 k5 k6 k7 => hQ h' ⟨k7 _ _ D.TIz D.TIi1 D.TIi2 ti, k3, k4, g1.at fun o e => k7 _ _ D.l1z D.l1i1 D.l1i2 e, g2.at fun o e => k7 _ _ D.l2z D.l2i1 D.l2i2 e, .inr ⟨T, true, oT, k1, k7 _ _ (n _ z1) (n _ z4) (n _ z5) b, c⟩⟩ k5 k6 fun c o c1 _ c2 c3 e => k7 c o c1 c2 c3 e
theorem zl_done {Q : Option Value → Shared → Prop} (hh : A.handled = none) (D : ZipApart z TI TO i1 i2 l1 l2) (t : ZSt z TI TO i1 i2 l1 l2 S xs ys s.heap i) (he : xs[i]? = none ∨ ys[i]? = none)
    (hQ : ∀ h', (∀ (c : Nat) o, c ≠ z → c ≠ TO → c ≠ i1 → c ≠ i2 → s.heap.get? c = some o → h'.get? c = some o) → Q none { s with heap := h' }) : wpAny (model prog w) A (pyNext (.ref z)) Q E s := by
  obtain ⟨ti, h1, h2, g1, g2, st⟩ := t
  rcases st with ⟨a, u, v, b⟩ | ⟨T, f, oT, a, b, c⟩
  · exact wpAny_pyNext_zip_end hh D a ti b h1 h2 g1 g2 he hQ
  · exact wpAny_pyNext_zip_end_held hh D a b ti h1 h2 g1 g2 he fun h' k => hQ h' fun c o c1 _ c2 c3 e => k c o c1 c2 c3 e
end
section
variable {prog : Program} {w : World} {A : Around} {s : Shared} {R : Result → Shared → Prop} {z TI TO i1 i2 l1 l2 S : Nat} {xs ys : Array Value}
theorem zl_loop (hh : A.handled = none) (D : ZipApart z TI TO i1 i2 l1 l2) (hz : z < S ∧ TI < S ∧ TO < S ∧ i1 < S ∧ i2 < S ∧ l1 < S ∧ l2 < S) (hn : min xs.size ys.size ≤ sizeLine) (res : Value) {h₁ : Heap}
    (hR : ∀ h' tk acc c as, (∀ (b : Nat) o, b ≠ S → b ≠ z → b ≠ TO → b ≠ i1 → b ≠ i2 → h₁.get? b = some o → h'.get? b = some o) → h'.get? S = some { cls := .type "list", dict := none, data := .seq acc c, slots := #[] } → as.length = min xs.size ys.size → ZlG xs ys S h' as →
      acc.toList = as.map Value.ref → R (.ok (.ret res)) { s with heap := h', toks := tk }) :
    ∀ (k i : Nat) (h : Heap) (tk c : Nat) (acc : Array Value) (as : List Nat), min xs.size ys.size - i = k → i ≤ min xs.size ys.size → ZSt z TI TO i1 i2 l1 l2 S xs ys h i → (∀ (b : Nat) o, b ≠ S → b ≠ z → b ≠ TO → b ≠ i1 → b ≠ i2 → h₁.get? b = some o → h.get? b = some o) →
      h.get? S = some { cls := .type "list", dict := none, data := .seq acc c, slots := #[] } → acc.toList = as.map Value.ref → as.length = i → ZlG xs ys S h as →
      codeAny (model prog w) A (.builtin "list.extend.loop" ⟨[.ref S, .ref z, res], []⟩) R { s with heap := h, toks := tk } := by
  obtain ⟨z1, z2, z3, z4, z5, z6, z7⟩ := hz
  have far : ∀ b, S < b → b ≠ S ∧ b ≠ z ∧ b ≠ TO ∧ b ≠ i1 ∧ b ≠ i2 := fun b hb => by omega
  intro k
  induction k with
  | zero =>
    intro i h tk c acc as hk hi hst hkeep hS hacc hal hG
    refine codeAny_builtin PySem.F.entry_extend_loop ?_
    rw [Around.under_plainId PySem.F.plain_extend_loop _]
    show wpAny _ A.in1 (pyNext (.ref z) >>= _) _ _ _
    refine wpAny_bind (zl_done (s := { s with heap := h, toks := tk }) (A := A.in1) hh D hst (by
      by_cases g : xs.size ≤ i
      · exact .inl (Array.getElem?_eq_none g)
      · exact .inr (Array.getElem?_eq_none (by omega))) fun h' he => ?_)
    refine wpAny_pure (hR h' tk acc c as (fun b o b1 b2 b3 b4 b5 e => he b o b2 b3 b4 b5 (hkeep b o b1 b2 b3 b4 b5 e)) (he S _ (by omega) (by omega) (by omega) (by omega) hS) (by omega) ⟨hG.rise, hG.above, fun j a hj => ?_⟩ hacc)
    obtain ⟨x, y, g1, g2, g3⟩ := hG.pairs j a hj
    obtain ⟨f1, f2, f3, f4, f5⟩ := far a (hG.above a (List.mem_of_getElem? hj))
    exact ⟨x, y, g1, g2, he a _ f2 f3 f4 f5 g3⟩
  | succ k ih =>
    intro i h tk c acc as hk hi hst hkeep hS hacc hal hG
    have hx : i < xs.size := by omega
    have hy : i < ys.size := by omega
    have hsz : acc.size = i := by rw [← Array.length_toList, hacc, List.length_map, hal]
    have hSl : (S : Nat) < h.objs.size := Heap.lt_size hS
    refine codeAny_builtin PySem.F.entry_extend_loop ?_
    rw [Around.under_plainId PySem.F.plain_extend_loop _]
    show wpAny _ A.in1 (pyNext (.ref z) >>= _) _ _ _
    refine wpAny_bind (zl_item (s := { s with heap := h, toks := tk }) D hst ⟨z1, z2, z3, z4, z5⟩ hSl (Array.getElem?_eq_getElem hx) (Array.getElem?_eq_getElem hy) fun h' hst' ht hsz' hkp => ?_)
    dsimp only at ht hsz' hkp ⊢
    have hS' := hkp S _ (by omega) (by omega) (by omega) (by omega) hS
    have up : ∀ (b : Nat) o, b ≠ S → h'.get? b = some o → (h'.update S (Obj.mapSeq (·.push (Value.ref h.objs.size)))).get? b = some o := fun b o hb e => (Heap.get?_update_other _ _ (Ne.symm hb)).trans e
    show wpAny _ A.in1 (updateSeq S (·.push (Value.ref h.objs.size)) >>= _) _ _ _
    refine wpAny_bind ?_
    refine wpAny_updateSeq hS' rfl (wpAny_pure ⟨plainId_quiet PySem.F.plain_extend_loop _, ih (i + 1) _ tk _ (acc.push (Value.ref h.objs.size)) (as ++ [h.objs.size]) (by omega) (by omega) (hst'.keep (by omega) up)
      (fun b o b1 b2 b3 b4 b5 e => up b o b1 (hkp b o b2 b3 b4 b5 (hkeep b o b1 b2 b3 b4 b5 e))) (Heap.get?_update_self _ hS' rfl) (by rw [Array.toList_push, hacc, List.map_append]; rfl) (by rw [List.length_append, hal]; rfl) ⟨?_, ?_, ?_⟩⟩) (by rw [hsz]; omega) (by show (acc.push (Value.ref h.objs.size)).size ≤ sizeLine + 1; rw [Array.size_push, hsz]; omega)
    · refine List.pairwise_append.mpr ⟨hG.rise, List.pairwise_singleton _ _, fun a ha b hb => ?_⟩
      rw [List.mem_singleton.mp hb]
      obtain ⟨j, hj⟩ := List.mem_iff_getElem?.mp ha
      obtain ⟨_, _, _, _, e⟩ := hG.pairs j a hj
      exact Heap.lt_size e
    · intro a ha
      rcases List.mem_append.mp ha with ha | ha
      · exact hG.above a ha
      · rw [List.mem_singleton.mp ha]; exact hSl
    · intro j b hj
      rcases Nat.lt_trichotomy j as.length with g | g | g
      · rw [List.getElem?_append_left g] at hj
        obtain ⟨x, y, g1, g2, g3⟩ := hG.pairs j b hj
        obtain ⟨f1, f2, f3, f4, f5⟩ := far b (hG.above b (List.mem_of_getElem? hj))
        exact ⟨x, y, g1, g2, up b _ f1 (hkp b _ f2 f3 f4 f5 g3)⟩
      · subst g
        have hb : h.objs.size = b := by simpa using hj
        subst hb
        exact ⟨_, _, by rw [hal]; exact Array.getElem?_eq_getElem hx, by rw [hal]; exact Array.getElem?_eq_getElem hy, up _ _ (by omega) ht⟩
      · have hnone : (as ++ [h.objs.size])[j]? = none := List.getElem?_eq_none (by rw [List.length_append, List.length_singleton]; omega)
        rw [hnone] at hj; cases hj
theorem zl_extend (hh : A.handled = none) (D : ZipApart z TI TO i1 i2 l1 l2) (hz : z < S ∧ TI < S ∧ TO < S ∧ i1 < S ∧ i2 < S ∧ l1 < S ∧ l2 < S) (hn : min xs.size ys.size ≤ sizeLine) (res : Value) (c₀ : Nat) (t : ZSt z TI TO i1 i2 l1 l2 S xs ys s.heap 0) (hf : IsZip s.heap z TI TO .none) (hS : s.heap.get? S = some { cls := .type "list", data := .seq #[] c₀ })
    (hR : ∀ h' tk acc c as, (∀ (b : Nat) o, b ≠ S → b ≠ z → b ≠ TO → b ≠ i1 → b ≠ i2 → s.heap.get? b = some o → h'.get? b = some o) → h'.get? S = some { cls := .type "list", dict := none, data := .seq acc c, slots := #[] } → as.length = min xs.size ys.size → ZlG xs ys S h' as →
      acc.toList = as.map Value.ref → R (.ok (.ret res)) { s with heap := h', toks := tk }) :
    wpAny (model prog w) A.in1 (Builtin.List.listExtendWith (.ref S) (.ref z) res)
      (fun fin s' => match fin with | .done f => R (.ok f) s' | .again c' => c'.quiet = true ∧ codeAny (model prog w) A c' R s') (fun e s' => R (.error e) s') s := by
  have hT : s.TypeIs (.ref z) "zip" := ⟨_, hf, rfl⟩
  have key : ∀ (h : Heap) (c₁ tk : Nat), (∀ (b : Nat) o, b ≠ S → s.heap.get? b = some o → h.get? b = some o) → h.get? S = some { cls := .type "list", data := .seq #[] c₁ } → codeAny (model prog w) A (.builtin "list.extend.loop" ⟨[.ref S, .ref z, res], []⟩) R { s with heap := h, toks := tk } := by
    intro h c₁ tk hk hS₁
    exact zl_loop (s := s) (h₁ := s.heap) hh D hz hn res hR (min xs.size ys.size) 0 h tk c₁ #[] [] (Nat.sub_zero _) (Nat.zero_le _) (t.keep (by omega) hk) (fun b o b1 _ _ _ _ e => hk b o b1 e) hS₁ rfl rfl ⟨List.Pairwise.nil, (fun _ ha => nomatch ha), (fun j a hj => by simp at hj)⟩
  unfold Builtin.List.listExtendWith
  refine wpAny_bind (wpAny_typeOf hT ?_)
  have h1 : Builtin.List.listSameRef (.ref S) (.ref z) = false := by
    have : S ≠ z := by omega
    simp [Builtin.List.listSameRef, this]
  have h2 : (Value.type "zip" == Value.type "list") = false := by decide
  have h3 : (Value.type "zip" == Value.type "tuple") = false := by decide
  simp only [h1, h2, h3, Bool.or_false, Bool.false_eq_true, if_false]
  refine wpAny_bind (wpAny_pyIter_zip hf ?_)
  refine wpAny_bind (wpAny_holding ?_)
  unfold Builtin.List.listLengthHint
  refine wpAny_bind (wpAny_specialOf hT nolen_zip ?_)
  show wpAny _ A.in1 (specialOf (Value.ref z) (Str.ofString "__length_hint__") >>= _) _ _ _
  refine wpAny_bind (wpAny_specialOf hT nohint_zip ?_)
  refine wpAny_pure ?_
  refine wpAny_ite_split (fun _ => ?_) (fun _ => wpAny_pure ⟨plainId_quiet PySem.F.plain_extend_loop _, key _ c₀ _ (fun b o _ e => e) hS⟩)
  refine wpAny_bind (wpAny_rule ?_)
  refine wpAny_bind ?_
  show wpAny _ _ (updateSeq S (·.push .none) >>= fun _ => updateSeq S (·.pop)) _ _ _
  refine wpAny_bind (wpAny_updateSeq hS rfl ?_)
  have hS₂ := Heap.get?_update_self (Obj.mapSeq (·.push Value.none)) hS rfl
  refine wpAny_updateSeq (hz := by seq_fits) hS₂ rfl ?_
  have hS₃ := Heap.get?_update_self (Obj.mapSeq (·.pop)) hS₂ rfl
  refine wpAny_pure ⟨plainId_quiet PySem.F.plain_extend_loop _, key _ _ _ (fun b o hb e => ?_) hS₃⟩
  exact (Heap.get?_update_other _ _ (Ne.symm hb)).trans ((Heap.get?_update_other _ _ (Ne.symm hb)).trans e)
end
section
variable {prog : Program} {w : World} {A : Around} {E : Value → Shared → Prop} {s : Shared} {z TI TO i1 i2 l1 l2 : Nat} {xs ys : Array Value}
theorem zl_call {Q : Value → Shared → Prop} (hh : A.handled = none) (D : ZipApart z TI TO i1 i2 l1 l2) (hn : min xs.size ys.size ≤ sizeLine) (t : ZSt z TI TO i1 i2 l1 l2 s.heap.objs.size xs ys s.heap 0) (hf : IsZip s.heap z TI TO .none) {a b : Value} (hto : IsPair s.heap TO a b)
    (hQ : ∀ h' tk acc c as, (∀ (b : Nat) o, b ≠ z → b ≠ TO → b ≠ i1 → b ≠ i2 → s.heap.get? b = some o → h'.get? b = some o) → h'.get? s.heap.objs.size = some { cls := .type "list", dict := none, data := .seq acc c, slots := #[] } → as.length = min xs.size ys.size → ZlG xs ys s.heap.objs.size h' as →
      acc.toList = as.map Value.ref → Q (.ref s.heap.objs.size) { s with heap := h', toks := tk }) :
    wpAny (model prog w) A (call (.type "list") [.ref z]) Q E s := by
  refine callType_codes (Q₁ := fun obj s₁ => obj = .ref s.heap.objs.size ∧ s₁ = { s with heap := s.heap.push { cls := .type "list", data := .seq #[] } }) PySem.F.called_list (PySem.F.typeCall_list_1 _) PySem.F.entry_list_init
    (code_list_new _ ⟨rfl, rfl⟩) fun obj s₁ h₁ => ?_
  obtain ⟨rfl, rfl⟩ := h₁
  have hS : (s.heap.push { cls := .type "list", data := .seq #[] }).get? s.heap.objs.size = some { cls := .type "list", data := .seq #[] } := Heap.get?_push_size _ rfl
  have z1 : z < s.heap.objs.size := Heap.lt_size hf
  have z2 : TI < s.heap.objs.size := Heap.lt_size t.ti
  have z3 : TO < s.heap.objs.size := Heap.lt_size hto
  have z4 : i1 < s.heap.objs.size := let ⟨_, ho, _⟩ := t.h1; Heap.lt_size ho
  have z5 : i2 < s.heap.objs.size := let ⟨_, ho, _⟩ := t.h2; Heap.lt_size ho
  have z6 : l1 < s.heap.objs.size := let ⟨_, ho, _⟩ := t.l1; Heap.lt_size ho
  have z7 : l2 < s.heap.objs.size := let ⟨_, ho, _⟩ := t.l2; Heap.lt_size ho
  refine ⟨⟨_, hS, rfl⟩, PySem.F.args_list_init_2 _ _, ?_⟩
  generalize hSe : s.heap.objs.size = S at *
  show wpAny _ _ (do let old ← Builtin.List.listItems (.ref S); Builtin.List.listUpdate (.ref S) (fun _ => #[]); letGo old.toList.reverse; Builtin.List.listExtendWith (.ref S) (.ref z) .none) _ _ _
  refine wpAny_bind ?_
  unfold Builtin.List.listItems
  refine wpAny_bind (wpAny_seqItems hS rfl (wpAny_pure ?_))
  show wpAny _ _ (updateSeq S (fun _ => #[]) >>= fun _ => letGo (#[] : Array Value).toList.reverse >>= fun _ => Builtin.List.listExtendWith (.ref S) (.ref z) .none) _ _ _
  refine wpAny_bind (wpAny_updateSeq hS rfl ?_)
  have hS₂ := Heap.get?_update_self (Obj.mapSeq (fun _ => (#[] : Array Value))) hS rfl
  have oth : ∀ (b : Nat) o, b ≠ S → s.heap.get? b = some o → ((s.heap.push { cls := .type "list", data := .seq #[] }).update S (Obj.mapSeq (fun _ => (#[] : Array Value)))).get? b = some o :=
    fun b o hb e => (Heap.get?_update_other _ _ (Ne.symm hb)).trans (Heap.get?_push_of_some _ e)
  refine wpAny_bind (wpAny_letGo ?_)
  refine zl_extend (A := A.in1) (S := S) hh D ⟨z1, z2, z3, z4, z5, z6, z7⟩ hn .none _ (t.keep (by omega) oth) (oth _ _ (by omega) hf) hS₂ fun h' tk acc c as hk hS' hl hG hacc => ?_
  exact ⟨rfl, hQ h' tk acc c as (fun b o b1 b2 b3 b4 e => hk b o (by have : (b : Nat) < s.heap.objs.size := Heap.lt_size e; omega) b1 b2 b3 b4 (oth b o (by have : (b : Nat) < s.heap.objs.size := Heap.lt_size e; omega) e)) hS' hl hG hacc⟩
end
/-! ### over the layer -/
def putP : Hp → List Addr → List (V × V) → Hp
  | H, a :: as, p :: ps => putP (upd H a (.tup [p.1, p.2])) as ps
  | H, _, _ => H
theorem putP_off {b : Addr} : ∀ (as : List Addr) (ps : List (V × V)) (H : Hp), b ∉ as → putP H as ps b = H b
  | [], _, _, _ => rfl
  | _ :: _, [], _, _ => rfl
  | a :: as, p :: ps, H, h => by
    show putP (upd H a (.tup [p.1, p.2])) as ps b = H b
    rw [putP_off as ps _ (fun z => h (List.mem_cons_of_mem _ z)), upd_ne (fun z => h (by rw [z]; exact List.mem_cons_self))]
theorem putP_at : ∀ (as : List Addr) (ps : List (V × V)) (H : Hp) (j : Nat) (a : Addr) (p : V × V), as.Nodup → as[j]? = some a → ps[j]? = some p → putP H as ps a = some (.tup [p.1, p.2])
  | [], _, _, j, a, p, _, h, _ => by simp at h
  | _ :: _, [], _, j, a, p, _, _, h => by simp at h
  | x :: as, q :: ps, H, 0, a, p, hn, h, g => by
    simp at h g
    subst h g
    show putP (upd H x (.tup [q.1, q.2])) as ps x = _
    rw [putP_off as ps _ (List.nodup_cons.mp hn).1, upd_same]
  | x :: as, q :: ps, H, j + 1, a, p, hn, h, g => putP_at as ps _ j a p (List.nodup_cons.mp hn).2 (by simpa using h) (by simpa using g)
/-- a new list of tuples of two -/
def NewPairs (H : Hp) (Q : VK) (ps : List (V × V)) : Prop := ∀ (H' : Hp) (p : Addr) (ts : List Addr), (∀ b o, H b = some o → H' b = some o) → H p = none → ts.length = ps.length → (∀ t ∈ ts, H t = none) → p ∉ ts → H' p = some (.lst (ts.map V.ref)) →
  (∀ (j : Nat) (t : Addr) (q : V × V), ts[j]? = some t → ps[j]? = some q → H' t = some (.tup [q.1, q.2])) → Q (.ref p) H'
def tListZip (K : PySem.W.Frag) (ta : TA) : TE := fun σ H Q => ta σ H fun vs H1 => ∃ a b xs ys, vs = [.ref a, .ref b] ∧ SqL K H1 a xs ∧ SqL K H1 b ys ∧ xs.length ≤ sizeLine ∧ NewPairs H1 Q (xs.zip ys)
section
variable {X : Cx} {e e2 : Expr} {ta : TA} {p p2 pos pos2 : Pos}
theorem zip_laid {pins : List (Addr × Obj)} {σ : L2.St} {H : Hp} {s : Shared} {h' : Heap} {tk : Nat} {xs ys : List V} {us ws : List Value} {acc : Array Value} {c : Nat} {as : List Nat} {S : Nat} (I : Inv X pins σ H s) (hz : xs.length ≤ sizeLine) (rx : Vals xs us) (ry : Vals ys ws) (hSs : s.heap.objs.size ≤ S)
    (hk : ∀ b o, s.heap.get? b = some o → h'.get? b = some o) (hS : h'.get? S = some { cls := .type "list", dict := none, data := .seq acc c, slots := #[] }) (hl : as.length = min us.toArray.size ws.toArray.size) (hG : ZlG us.toArray ws.toArray S h' as) (hacc : acc.toList = as.map Value.ref) :
    ∃ H' : Hp, (∀ b o, H b = some o → H' b = some o) ∧ H S = none ∧ (∀ t ∈ as, H t = none) ∧ S ∉ as ∧ H' S = some (.lst (as.map V.ref)) ∧ (∀ (j : Nat) (t : Addr) (q : V × V), as[j]? = some t → (xs.zip ys)[j]? = some q → H' t = some (.tup [q.1, q.2])) ∧ Inv X pins σ H' { s with heap := h', toks := tk } := by
  have lx := rx.length
  have ly := ry.length
  simp only [List.size_toArray] at hl
  have hSn : S ∉ as := fun z => Nat.lt_irrefl _ (hG.above _ z)
  have nd : as.Nodup := List.Pairwise.imp (fun {a b} (h : a < b) => Nat.ne_of_lt h) hG.rise
  have new : ∀ t ∈ as, H t = none := fun t ht => I.hok.fresh (by have h1 : (S : Nat) < t := hG.above t ht; omega)
  have newS : H S = none := I.hok.fresh hSs
  have off : ∀ b, b ∉ as → b ≠ S → putP (upd H S (.lst (as.map V.ref))) as (xs.zip ys) b = H b := fun b h1 h2 => by rw [putP_off as _ _ h1, upd_ne h2]
  have low : ∀ b o, s.heap.get? b = some o → b ∉ as ∧ b ≠ S := fun b o e => by
    have hb : (b : Nat) < s.heap.objs.size := Heap.lt_size e
    exact ⟨fun z => absurd (hG.above b z) (Nat.not_lt.mpr (Nat.le_of_lt (Nat.lt_of_lt_of_le hb hSs))), Nat.ne_of_lt (Nat.lt_of_lt_of_le hb hSs)⟩
  have kp : ∀ b u, H b = some u → (putP (upd H S (.lst (as.map V.ref))) as (xs.zip ys)) b = some u := fun b u e => by
    rw [off b (fun z => by rw [new b z] at e; cases e) (fun z => by rw [z, newS] at e; cases e)]
    exact e
  have eS : putP (upd H S (.lst (as.map V.ref))) as (xs.zip ys) S = some (.lst (as.map V.ref)) := by rw [putP_off as _ _ hSn, upd_same]
  refine ⟨putP (upd H S (.lst (as.map V.ref))) as (xs.zip ys), kp, newS, new, hSn, eS, fun j t q h1 h2 => putP_at as _ _ j t q nd h1 h2, ?_⟩
  refine I.call' (ch := []) rfl ⟨fun b o q _ _ _ => hk b o q, fun b o q _ _ _ => ⟨o.slots, hk b o q⟩, fun b o q n _ => ?_, fun b o q _ => ⟨o, hk b o q⟩, fun b xs q => kp b _ q, fun b o u q => kp b _ q, fun b ps q => ⟨#[], by rw [kp b _ q]; simp⟩⟩ (fun b u q => ?_) I.bare fun b z => by simp at z
  · obtain ⟨z1, z2⟩ := low b o q
    rw [off b z1 z2]
    exact n
  · by_cases hb : b ∈ as
    · obtain ⟨j, hj⟩ := List.mem_iff_getElem?.mp hb
      have hj2 := (List.getElem?_eq_some_iff.mp hj).1
      obtain ⟨x, y, f1, f2, f3⟩ := hG.pairs j b hj
      obtain ⟨ux, gx⟩ : ∃ v, xs[j]? = some v := ⟨_, List.getElem?_eq_getElem (by omega)⟩
      obtain ⟨uy, gy⟩ : ∃ v, ys[j]? = some v := ⟨_, List.getElem?_eq_getElem (by omega)⟩
      obtain ⟨vx, k1, r1⟩ := rx.get gx
      obtain ⟨vy, k2, r2⟩ := ry.get gy
      have ex : vx = x := by
        have : us[j]? = some x := by simpa using f1
        rw [k1] at this
        exact Option.some.inj this
      have ey : vy = y := by
        have : ws[j]? = some y := by simpa using f2
        rw [k2] at this
        exact Option.some.inj this
      subst ex ey
      have hzp : (xs.zip ys)[j]? = some (ux, uy) := by
        rw [List.getElem?_zip_eq_some]
        exact ⟨gx, gy⟩
      rw [putP_at as _ _ j b (ux, uy) nd hj hzp] at q
      cases q
      exact ⟨by show 2 ≤ sizeLine; decide, [vx, vy], .cons r1 (.cons r2 .nil), ⟨_, f3, rfl, _, rfl⟩⟩
    · by_cases hb2 : b = S
      · rw [hb2] at q ⊢
        rw [eS] at q
        cases q
        refine ⟨by rw [List.length_map]; omega, acc.toList, c, by rw [hacc]; exact LiI.vals_refs as, ?_⟩
        rw [Array.toArray_toList]
        exact hS
      · rw [off b hb hb2] at q
        exact (I.hok b u q).stay (fun d v _ y => hk d v y) (fun d y => kp d _ y) fun d xs y => kp d _ y
/-- list(zip(a, b)) -/
theorem pe_listZip (hc : X.calm = true) (hg : Gl X "list") (hm : X.mg "list" = none) (hv : bootBuiltins "list" = some (.type "list")) (hg2 : Gl X "zip") (hm2 : X.mg "zip" = none) (ha : PA X [e, e2] ta)
    (hs2 : starEach [e, e2] X.env = (false, eval e X.env) :: starEach [e2] X.env := by rfl) (hpl : (backTo pos2 (starEach [e2] X.env)).any (·.1) = false := by rfl)
    (hs : starEach [.Call (.Name "zip" p2) [e, e2] [] pos2] X.env = (false, eval (.Call (.Name "zip" p2) [e, e2] [] pos2) X.env) :: starEach [] X.env := by rfl) :
    PE X (.Call (.Name "list" p) [.Call (.Name "zip" p2) [e, e2] [] pos2] [] pos) (tListZip X.K ta) := by
  refine ⟨fun pins s σ H Q I hq => ?_⟩
  refine wpAny_Call_Name_kw (ld_blt I hg hm hv ?_)
  refine PyProof.Rows.callWith_type1 ?_ hs rfl
  rw [hs]
  show wpAny _ _ (spliced ((false, eval (.Call (.Name "zip" p2) [e, e2] [] pos2) X.env) :: backTo pos (starEach [] X.env))) _ _ s
  refine Calls.spliced_cons ?_
  refine Call_ (ld_blt I hg2 hm2 PyProof.Rows.boot_zip (PyProof.Rows.callWith_type1 (thn (ha.run pos2 pins s σ H _ I hq) fun us s1 ⟨vs, H1, I1, r1, q1⟩ => ?_) hs2 hpl))
  obtain ⟨a, b, xs, ys, ex, hqx, hqy, hxl, q⟩ := q1
  subst ex
  cases r1 with
  | cons r rr =>
    cases rr with
    | cons r' rr =>
      cases rr
      cases r
      cases r'
      obtain ⟨its, rv, p1, _⟩ := I1.list hqx
      obtain ⟨its2, rv2, p2', _⟩ := I1.list hqy
      have la : a < s1.heap.objs.size := p1.lt
      have lb : b < s1.heap.objs.size := p2'.lt
      refine call_zip_2 p1.isList p2'.isList fun h' hz hTI hTO h1 h2 hsz hk => ?_
      refine Calls.spliced_nil ?_
      have lx := rv.length
      have D := PySem.W.ktu_apart s1.heap.objs.size a b la lb
      refine zl_call (s := { s1 with heap := h' }) (I1.ok.hd hc) D (xs := its.toArray) (ys := its2.toArray) (by rw [List.size_toArray, ← lx]; omega) ⟨hTI, h1, h2, p1.isList.at fun o e => hk _ _ e, p2'.isList.at fun o e => hk _ _ e, .inl ⟨hz, _, _, hTO⟩⟩ hz hTO fun h'' tk acc c as hk' hS hl hG hacc => ?_
      have big : ∀ b o, s1.heap.get? b = some o → h''.get? b = some o := fun b o e => by
        have h1 : (b : Nat) < s1.heap.objs.size := Heap.lt_size e
        have nn : ∀ k : Nat, (b : Nat) ≠ s1.heap.objs.size + k := fun k => Nat.ne_of_lt (Nat.lt_of_lt_of_le h1 (Nat.le_add_right _ _))
        exact hk' b o (nn 4) (nn 3) (nn 0) (nn 1) (hk b o e)
      have hS0 : s1.heap.objs.size ≤ h'.objs.size := by omega
      obtain ⟨H', k1, k2, k3, k4, k5, k6, J⟩ := zip_laid (tk := tk) I1 hxl rv rv2 hS0 big hS hl hG hacc
      have ly := rv2.length
      simp only [List.size_toArray] at hl
      exact ⟨.ref h'.objs.size, H', J, rfl, q H' _ as k1 k2 (by rw [List.length_zip]; omega) k3 k4 k5 k6⟩
end
end NbB

set_option Elab.async false
set_option linter.all false
set_option maxRecDepth 100000
set_option maxHeartbeats 4000000
/-! == and != by an own __eq__, also where the right side's class stands below the left one's; a method, a property of an instance of one of two classes. -/
namespace NbE
open PySem PySem.Spec PyProof.Rows L2
/-- two classes, told by a truth value -/
abbrev Two := Bool → Addr

section
variable {prog : Program} {w : World} {A : Around} {E : Value → Shared → Prop} {s : Shared} {K : PySem.W.Frag} {x y C D f : Addr} {ox oy : Obj} {od oe : Option Obj} {b tb : Value}
open PySem.W in
/-- the right side's class stands below: its own method is asked first -/
theorem cmp_below {op : CmpOp} {Q : Value → Shared → Prop} (hu : A.units < cLine) (X : K.In s.heap) (I : InstAt s.heap x ox C od) (J : InstAt s.heap y oy D oe) (hne : D ≠ C) (hsub : subIn K (.ref D) (.ref C) = some true)
    (h : wpAny (model prog w) A (tryCompare (.ref y) (cmpInfo op).2.2 (.ref x)) (fun r s' => ∃ v, r = some v ∧ Q v s') E s) : wpAny (model prog w) A (richCompare op (.ref x) (.ref y)) Q E s := by
  unfold richCompare
  simp only [oneThing_ref]
  refine wpAny_holding (wpAny_bind (wpAny_cRoomFor hu (wpAny_bind (I.type.here (wpAny_bind (J.type.here ?_))))))
  have hq : (Value.ref C != Value.ref D) = true := by
    simp only [bne_iff_ne, ne_eq, Value.ref.injEq]
    exact fun e => hne e.symm
  rw [if_pos hq]
  refine wpAny_bind ((looks_subIn X hsub).here ?_)
  simp only [if_true]
  refine wpAny_bind (wpAny_mono h (fun r s' z => ?_) fun _ _ e => e)
  obtain ⟨v, rfl, q⟩ := z
  exact wpAny_bind (wpAny_rule (wpAny_pure q))
open PySem.W in
/-- the left side's own method is asked first -/
theorem cmp_left {op : CmpOp} {Q : Value → Shared → Prop} (hu : A.units < cLine) (X : K.In s.heap) (I : InstAt s.heap x ox C od) (hb : Looks (model prog w) s.heap (typeOf b) tb) (hn : notFirst K C tb = true)
    (h : wpAny (model prog w) A (tryCompare (.ref x) (cmpInfo op).2.1 b) (fun r s' => ∃ v, r = some v ∧ Q v s') E s) : wpAny (model prog w) A (richCompare op (.ref x) b) Q E s := by
  have one : ∀ {α : Type} (k : Option Value → Sem α) (k' : Value → Sem α) (R : α → Shared → Prop), (∀ v, k (some v) = k' v) → (∀ v s', Q v s' → wpAny (model prog w) A (k' v) R E s') → wpAny (model prog w) A (tryCompare (.ref x) (cmpInfo op).2.1 b >>= k) R E s :=
    fun k k' R e hk => wpAny_bind (wpAny_mono h (fun r s' z => by
      obtain ⟨v, rfl, q⟩ := z
      rw [e v]
      exact hk v s' q) fun _ _ z => z)
  unfold richCompare
  simp only [oneThing_ref]
  refine wpAny_holding (wpAny_bind (wpAny_cRoomFor hu (wpAny_bind (I.type.here (wpAny_bind (hb.here ?_))))))
  split
  · rename_i q
    have e : subIn K tb (.ref C) = some false := by
      rcases Bool.or_eq_true_iff.mp hn with z | z
      · rw [beq_iff_eq.mp z] at q; simp at q
      · exact beq_iff_eq.mp z
    refine wpAny_bind ((looks_subIn X e).here ?_)
    simp only [Bool.false_eq_true, if_false]
    exact one _ (fun v => pure v) _ (fun _ => rfl) fun v s' z => wpAny_pure z
  · refine wpAny_bind (wpAny_pure ?_)
    simp only [Bool.false_eq_true, if_false]
    exact one _ (fun v => pure v) _ (fun _ => rfl) fun v s' z => wpAny_pure z
open PySem.W in
/-- self.__eq__(other), a def of the text that hands back True or False -/
theorem try_eq {Q : Option Value → Shared → Prop} (X : K.In s.heap) (I : InstAt s.heap x ox C od) (hs : findIn K (.ref C) "__eq__" = some (some (.ref f))) (hf : isFn K (.ref f) = true)
    (h : wpAny (model prog w) A (call (.ref f) [.ref x, b]) (fun v s' => ∃ c, v = .bool c ∧ Q (some v) s') E s) : wpAny (model prog w) A (tryCompare (.ref x) "__eq__" b) Q E s := by
  unfold tryCompare
  refine wpAny_bind (ifBound_K X I hs hf (wpAny_mono h (fun v s' z => ?_) fun _ _ e => e))
  obtain ⟨c, rfl, q⟩ := z
  exact wpAny_pure q
open PySem.W in
/-- self.__ne__(other), object's: by the own __eq__, turned round -/
theorem try_ne {Q : Option Value → Shared → Prop} (hu : A.units + 1 < cLine) (X : K.In s.heap) (I : InstAt s.heap x ox C od) (hm : mroIn K C (.type "object") = some true) (hn : findIn K (.ref C) "__ne__" = some (some (.builtin "object.__ne__")))
    (hs : findIn K (.ref C) "__eq__" = some (some (.ref f))) (hf : isFn K (.ref f) = true)
    (h : wpAny (model prog w) A.in1 (call (.ref f) [.ref x, b]) (fun v s' => ∃ c, v = .bool c ∧ Q (some (.bool (!c))) s') E s) : wpAny (model prog w) A (tryCompare (.ref x) "__ne__" b) Q E s := by
  have whole : wpAny (model prog w) A (call (.builtin "object.__ne__") ([.ref x] ++ [b])) (fun v s' => ∃ c, v = .bool c ∧ Q (some v) s') E s := by
    refine wpAny_call (codeAny_call_builtin F.cmp_object.ne.plain F.cmpEntry_ne (check_slot F.cmpKind_ne F.cmpSplit_ne (I.type.andThen (looks_mroIn X hm)) (F.cmpArgs_ne _ _) ?_))
    unfold Builtin.«object.__ne__»
    have hq : ∀ {R : Option Value → Shared → Prop}, (∀ c s', Q (some (.bool (!c))) s' → R (some (.bool c)) s') → wpAny (model prog w) A.in1 (callSpecialIfBound? (.ref x) "__eq__" [b]) R E s := fun {R} k =>
      ifBound_K X I hs hf (wpAny_mono h (fun v s' z => by
        obtain ⟨c, rfl, q⟩ := z
        exact k c s' q) fun _ _ e => e)
    repeat (first | with_reducible refine wpAny_cRoomFor (by show A.units + 1 < cLine; omega) ?_ | with_reducible refine hq (fun c s' z => ?_) | wp_step)
    all_goals first | exact ⟨_, rfl, z⟩ | exact z | skip
  unfold tryCompare callSpecialIfBound? bindSpecialIfBound?
  refine wpAny_bind (wpAny_holding (wpAny_bind (wpAny_bind (wpAny_bind (I.type.here ((looks_findIn X hn).here ?_))))))
  have fin : ∀ {R : Option Value → Shared → Prop}, (∀ c s', Q (some (.bool c)) s' → R (some (.bool c)) s') → wpAny (model prog w) A (call (.builtin "object.__ne__") ([.ref x] ++ [b]) >>= fun v => pure (some v)) R E s := fun {R} k =>
    wpAny_bind (wpAny_mono whole (fun v s' z => by
      obtain ⟨c, rfl, q⟩ := z
      exact wpAny_pure (k c s' q)) fun _ _ e => e)
  refine wpAny_bind (wpAny_askSetting (wpAny_ite ?_))
  split
  · exact wpAny_bind (wpAny_of_eq (F.cmp_object.ne.bind _) (wpAny_pure (fin fun c s' q => wpAny_pure q)))
  · exact wpAny_tryCatch (wpAny_bind (wpAny_of_eq (F.cmp_object.ne.bind _) (wpAny_pure (fin fun c s' q => wpAny_pure q))))
end

/-! ### promises at an address -/
section
variable {X : Cx} {pins : List (Addr × Obj)} {σ : L2.St} {H : Hp} {s : Shared} {k j n : Nat} {sp : Sp} {f : Addr} {Q : VK}
abbrev At (X : Cx) (k : Nat) (f : Addr) (sp : Sp) : Prop := C8.CalAt X.prog X.w X.K X.mg X.base k f sp
theorem run_at {A : Around} {E : Value → Shared → Prop} {us : List Value} {vs : List V} (c : At X k f sp) (hA : Room k A) (fr : A.frames = X.A.frames) (I : Inv X pins σ H s) (r : Vals vs us) (h : sp vs H Q E0) :
    wpAny (model X.prog X.w) A (call (.ref f) us) (EP X pins σ Q) E s := by
  obtain ⟨fd, ps, F, kp, b⟩ := c.ex
  have e := I.env0
  have hl : (us ++ []).length = ps.length := by rw [List.append_nil, ← r.length]; exact F.len _ _ _ _ h
  have hb := b s us I.kIn hl
  rw [List.append_nil] at hb
  refine wpAny_call (codeAny_mono (F.run A X.stack s H ⟨us, []⟩ us vs Q E0 hA ⟨fr.trans e.frames, e.mod, e.bs, e.bsz, e.funs, e.frf, e.hok, e.bare⟩ hb r h) fun r s' q => ?_)
  cases r with
  | error e => exact q.elim
  | ok fl => cases fl with
    | ret u => exact I.after q
    | _ => exact q.elim

/-! ### == and != of instances of two classes, one below the other -/
structure TwoOk (K : PySem.W.Frag) (C : Two) (f : Addr) : Prop where
  below : PySem.W.subIn K (.ref (C true)) (.ref (C false)) = some true
  apart : C true ≠ C false
  eq : ∀ c, PySem.W.findIn K (.ref (C c)) "__eq__" = some (some (.ref f))
  fn : PySem.W.isFn K (.ref f) = true
  ne : ∀ c, PySem.W.findIn K (.ref (C c)) "__ne__" = some (some (.builtin "object.__ne__"))
  ob : ∀ c, PySem.W.mroIn K (C c) (.type "object") = some true
/-- what is asked: the promise of __eq__ at the two, in the sequence in which it is called -/
def rTwo (K : PySem.W.Frag) (C : Two) (sp : Sp) (g : Bool → Bool) : R2 := fun x y H Q => ∃ (a : Addr) (c : Bool) (dx : Addr) (fs : List (Str × V)), x = .ref a ∧ H a = some (.ins (C c) dx fs) ∧
  ((∃ (b dy : Addr) (gs : List (Str × V)), y = .ref b ∧ c = false ∧ H b = some (.ins (C true) dy gs) ∧ sp [y, x] H (fun v H' => ∃ r, v = .bl r ∧ Q (.bl (g r)) H') E0) ∨
   (∃ t, TyX K H y t ∧ PySem.W.notFirst K (C c) t = true ∧ sp [x, y] H (fun v H' => ∃ r, v = .bl r ∧ Q (.bl (g r)) H') E0))
theorem two_eq {C : Two} (T : TwoOk X.K C f) (F : At X k f sp) (hr : Room k X.A) : OpR X (compareOp .Eq) (rTwo X.K C sp id) := by
  intro pins s σ H x y v u Q I rx ry h
  obtain ⟨a, c, dx, fs, rfl, ha, h⟩ := h
  cases rx
  obtain ⟨mA, O, _⟩ := ins_get I.hok ha
  obtain ⟨od, J, _⟩ := O.look
  show wpAny _ _ (richCompare .Eq (.ref a) u) _ _ _
  rcases h with ⟨b, dy, gs, rfl, rfl, hb, q⟩ | ⟨t, ty, hn, q⟩
  · cases ry
    obtain ⟨mB, O', _⟩ := ins_get I.hok hb
    obtain ⟨od', J', _⟩ := O'.look
    refine cmp_below hr.units0 I.kIn J J' T.apart T.below (try_eq I.kIn J' (T.eq true) T.fn (wpAny_mono (run_at (vs := [.ref b, .ref a]) F hr rfl I (.cons rfl (.cons rfl .nil)) q) (fun w s' z => ?_) fun _ _ z => z))
    obtain ⟨v', H', I', rv, r, rfl, z⟩ := z
    cases rv
    exact ⟨r, rfl, _, rfl, .bl r, H', I', rfl, z⟩
  · obtain ⟨P, Z, p, _⟩ := kit_of I ry ty
    refine cmp_left hr.units0 I.kIn J (Z.ty _ _ I.kIn p) hn (try_eq I.kIn J (T.eq c) T.fn (wpAny_mono (run_at (vs := [.ref a, y]) F hr rfl I (.cons rfl (.cons ry .nil)) q) (fun w s' z => ?_) fun _ _ z => z))
    obtain ⟨v', H', I', rv, r, rfl, z⟩ := z
    cases rv
    exact ⟨r, rfl, _, rfl, .bl r, H', I', rfl, z⟩
theorem two_ne {C : Two} (T : TwoOk X.K C f) (F : At X k f sp) (hr : Room (k + 1) X.A) : OpR X (compareOp .NotEq) (rTwo X.K C sp not) := by
  intro pins s σ H x y v u Q I rx ry h
  have hu := hr.units
  obtain ⟨a, c, dx, fs, rfl, ha, h⟩ := h
  cases rx
  obtain ⟨mA, O, _⟩ := ins_get I.hok ha
  obtain ⟨od, J, _⟩ := O.look
  show wpAny _ _ (richCompare .NotEq (.ref a) u) _ _ _
  rcases h with ⟨b, dy, gs, rfl, rfl, hb, q⟩ | ⟨t, ty, hn, q⟩
  · cases ry
    obtain ⟨mB, O', _⟩ := ins_get I.hok hb
    obtain ⟨od', J', _⟩ := O'.look
    refine cmp_below hr.units0 I.kIn J J' T.apart T.below (try_ne (by omega) I.kIn J' (T.ob true) (T.ne true) (T.eq true) T.fn (wpAny_mono (run_at (vs := [.ref b, .ref a]) F hr.in1 rfl I (.cons rfl (.cons rfl .nil)) q) (fun w s' z => ?_) fun _ _ z => z))
    obtain ⟨v', H', I', rv, r, rfl, z⟩ := z
    cases rv
    exact ⟨r, rfl, _, rfl, .bl (!r), H', I', rfl, z⟩
  · obtain ⟨P, Z, p, _⟩ := kit_of I ry ty
    refine cmp_left hr.units0 I.kIn J (Z.ty _ _ I.kIn p) hn (try_ne (by omega) I.kIn J (T.ob c) (T.ne c) (T.eq c) T.fn (wpAny_mono (run_at (vs := [.ref a, y]) F hr.in1 rfl I (.cons rfl (.cons ry .nil)) q) (fun w s' z => ?_) fun _ _ z => z))
    obtain ⟨v', H', I', rv, r, rfl, z⟩ := z
    cases rv
    exact ⟨r, rfl, _, rfl, .bl (!r), H', I', rfl, z⟩
end

/-! ### a method, a property of an instance of one of the two -/
section
variable {X : Cx} {k j : Nat} {sp : Sp} {f : Addr} {C : Two} {o e : Expr} {es : List Expr} {m : Str} {ta : TE} {t : TA} {apos pos : Pos}
def tMeth2 (C : Two) (m : Str) (sp : Sp) (ta : TE) (t : TA) : TE := fun σ H Q => ta σ H fun x H1 => ∃ (a : Addr) (c : Bool) (dx : Addr) (fs : List (Str × V)), x = .ref a ∧ H1 a = some (.ins (C c) dx fs) ∧ fs.lookup m = none ∧ t σ H1 fun vs H2 => sp (x :: vs) H2 Q E0
structure Met2 (K : PySem.W.Frag) (C : Two) (m : Str) (f : Addr) : Prop where
  cl : ∀ c, Cls K (C c)
  me : ∀ c, Meth K (C c) m f
theorem pe_mt2 {pl : Sem Bool} (M : Met2 X.K C m f) (F : At X k f sp) (hr : Room j X.A) (hk : k ≤ j) (he : PE X o ta) (ha : PA X (e :: es) t) (hst : starEach (e :: es) X.env = (false, eval e X.env) :: starEach es X.env := by rfl)
    (hpl : (backTo pos (starEach es X.env)).any (·.1) = false := by rfl)
    (ht : eval (.Call (.Attribute o m apos) (e :: es) [] pos) X.env = (do
      let ov ← eval o X.env
      standAt apos.atName
      let (f, first) ← holding [ov] (getMethod ov m pl)
      callWith pos f first (backTo pos (starEach (e :: es) X.env)) (backToKw pos (keywordEach [] X.env))) := by rfl) : PE X (.Call (.Attribute o m apos) (e :: es) [] pos) (tMeth2 C m sp ta t) := by
  refine ⟨fun pins s σ H Q I h => PySem.W.methodCall_KW (pl := pl) (thn (he.run pins s σ H _ I h) fun u s1 z => ?_) ht⟩
  obtain ⟨x, H1, I1, rx, a, c, dx, fs, rfl, ea, l, q⟩ := z
  cases rx
  refine getmeth_ok I1 ea (M.cl c) (M.me c) l (PySem.W.callWith_K (first := [.ref a]) (h₀ := X.base) I1.ok.mod.kin (M.me c).kp (thn (ha.run pos pins s1 σ H1 _ I1 q) fun us s2 z => ?_) hst hpl)
  obtain ⟨vs, H2, I2, r, q2⟩ := z
  exact ⟨I2.kIn, run_at (vs := .ref a :: vs) F (hr.mono hk) rfl I2 (.cons rfl r) q2⟩
theorem pe_mt20 {pl : Sem Bool} (M : Met2 X.K C m f) (F : At X k f sp) (hr : Room j X.A) (hk : k ≤ j) (he : PE X o ta)
    (ht : eval (.Call (.Attribute o m apos) [] [] pos) X.env = (do
      let ov ← eval o X.env
      standAt apos.atName
      let (f, first) ← holding [ov] (getMethod ov m pl)
      callWith pos f first (backTo pos (starEach [] X.env)) (backToKw pos (keywordEach [] X.env))) := by rfl) : PE X (.Call (.Attribute o m apos) [] [] pos) (tMeth2 C m sp ta tNil) := by
  refine ⟨fun pins s σ H Q I h => PySem.W.methodCall_KW (pl := pl) (thn (he.run pins s σ H _ I h) fun u s1 z => ?_) ht⟩
  obtain ⟨x, H1, I1, rx, a, c, dx, fs, rfl, ea, l, q⟩ := z
  cases rx
  exact getmeth_ok I1 ea (M.cl c) (M.me c) l (PySem.W.callWith_K0 (first := [.ref a]) I1.kIn (M.me c).kp (run_at (vs := [.ref a]) F (hr.mono hk) rfl I1 (.cons rfl .nil) q))
def tProp2 (C : Two) (sp : Sp) (ta : TE) : TE := fun σ H Q => ta σ H fun x H1 => ∃ (a : Addr) (c : Bool) (dx : Addr) (fs : List (Str × V)), x = .ref a ∧ H1 a = some (.ins (C c) dx fs) ∧ sp [.ref a] H1 Q E0
structure Prp2 (K : PySem.W.Frag) (C : Two) (m : Str) (f : Addr) : Prop where
  cl : ∀ c, Cls K (C c)
  me : ∀ c, ∃ p, PropOf K (C c) m p f
theorem pe_prp2 (M : Prp2 X.K C m f) (F : At X k f sp) (hr : Room j X.A) (hk : k + 1 ≤ j) (he : PE X e ta) (hab : attributeBase e m X.env (eval e X.env) = eval e X.env := by rfl) : PE X (.Attribute e m pos) (tProp2 C sp ta) := by
  refine ⟨fun pins s σ H Q I h => attr_of hab (thn (he.run pins s σ H _ I h) fun u s1 z => ?_)⟩
  obtain ⟨x, H1, I1, rx, a, c, dx, fs, rfl, ea, q⟩ := z
  cases rx
  obtain ⟨p, hp⟩ := M.me c
  obtain ⟨fd, ps, F, kp, b⟩ := F.ex
  exact getprop_ok (E := E0) (dvs := []) (ds := []) I1 ea (M.cl c) hp F (hr.mono hk) b .nil (fun _ _ _ _ _ _ _ z => z.elim) q
end
end NbE

set_option Elab.async false
set_option linter.all false
set_option maxRecDepth 100000
set_option maxHeartbeats 8000000
/-! len(set(texts)) of texts that differ, however many. -/
namespace NbT
open PySem PySem.Spec PyProof.Rows L2
section
variable {prog : Program} {w : World} {A : Around} {R : Result → Shared → Prop} {I S : Addr} {fp wr : List Addr} {G : Array GenState → Array GenState → Prop} {n : Nat} {Y : Nat → Value → Prop} {T : Nat → Shared → Prop}
/-- the texts gone through, told as a set -/
abbrev Has (prog : Program) (w : World) (S : Addr) (xs : List Str) (i : Nat) (h : Heap) : Prop := h.SetOf (PySem.strKind prog w) S (fun z => (xs.take i).any (· == z)) i
theorem next_any {xs : List Str} {i : Nat} (hi : i < xs.length) (z : Str) : ((xs.take i).any (· == z) || decide (z = xs.getD i Str.empty)) = (xs.take (i + 1)).any (· == z) := by
  have e : xs.getD i Str.empty = xs[i] := by rw [List.getD_eq_getElem?_getD, List.getElem?_eq_getElem hi]; rfl
  rw [e, List.take_add_one, List.getElem?_eq_getElem hi, List.any_append]
  by_cases q : z = xs[i]
  · subst q; simp
  · have q' : (xs[i] == z) = false := beq_eq_false_iff_ne.mpr fun y => q y.symm
    simp [q, q']
theorem not_yet {xs : List Str} (nd : xs.Nodup) {i : Nat} (hi : i < xs.length) : (xs.take i).any (· == xs.getD i Str.empty) = false := by
  have e : xs.getD i Str.empty = xs[i] := by rw [List.getD_eq_getElem?_getD, List.getElem?_eq_getElem hi]; rfl
  rw [e]
  cases q : (xs.take i).any (· == xs[i]) with
  | false => rfl
  | true =>
    obtain ⟨y, hy, ey⟩ := List.any_eq_true.mp q
    rw [eq_of_beq ey] at hy
    obtain ⟨j, hj, e2⟩ := List.getElem_of_mem hy
    rw [List.length_take] at hj
    rw [List.getElem_take] at e2
    exact absurd e2 (List.pairwise_iff_getElem.mp nd j i (by omega) hi (by omega))
theorem fill (W : WalksS prog w A.in1 I fp wr G n Y T) (hSf : S ∉ fp) (xs : List Str) (nd : xs.Nodup) (hn : xs.length = n) (hb : n + 1 < scanBound) (hv : ∀ i v, Y i v → ∃ t, v = .str (xs.getD i Str.empty) t) :
    ∀ (left i : Nat) (s : Shared), i + left = n → T i s → Has prog w S xs i s.heap → (∀ s', Moved (S :: wr) G s s' → Has prog w S xs n s'.heap → R (.ok (.ret .none)) s') → codeAny (model prog w) A (.builtin "set.update.loop" ⟨[.ref S, .ref I], []⟩) R s
  | 0, i, s, hk, st, hS, fin => by
    obtain rfl : i = n := by omega
    refine codeAny_builtin (PyProof.Rows.F.entry_set_update_loop) ?_
    rw [Around.under_plainId (PyProof.Rows.F.plain_set_update_loop) _]
    refine wpAny_bind (m := pyNext (.ref I)) (W.done s _ _ st fun s' hm => wpAny_pure (fin s' (hm.mono fun b hb => List.mem_cons_of_mem _ hb) ?_))
    obtain ⟨o, es, ep, t, ho, z⟩ := hS
    exact ⟨o, es, ep, t, hm.heap S _ (fun h => hSf (W.sub _ h)) ho, z⟩
  | left + 1, i, s, hk, st, hS, fin => by
    have hi : i < n := by omega
    refine codeAny_builtin (PyProof.Rows.F.entry_set_update_loop) ?_
    rw [Around.under_plainId (PyProof.Rows.F.plain_set_update_loop) _]
    refine wpAny_bind (m := pyNext (.ref I)) (W.item i s _ _ hi st fun v s1 hP st1 hm => ?_)
    obtain ⟨t, rfl⟩ := hv i v hP
    have hS1 : Has prog w S xs i s1.heap := by
      obtain ⟨o, es, ep, tb, ho, z⟩ := hS
      exact ⟨o, es, ep, tb, hm.heap S _ (fun h => hSf (W.sub _ h)) ho, z⟩
    refine wpAny_bind (m := holding [Value.str (xs.getD i Str.empty) t] (setAdd S (.str (xs.getD i Str.empty) t))) (wpAny_holding ?_)
    refine wpAny_holding (wpAny_bind ((PySem.strKind prog w).pyHash (k := xs.getD i Str.empty) (strKind_is _ _ _ _) ?_))
    refine wpAny_setAddHashed_of (knd := PySem.strKind prog w) (s := { s1 with toks := s1.toks + 1 }) (strKind_is _ _ _ _) rfl hS1 (by omega) fun h2 only hS2 => ?_
    have hS3 : Has prog w S xs (i + 1) h2 := SetOf_congr hS2 (fun z => next_any (by omega) z) (by rw [not_yet nd (show i < xs.length by omega)]; simp)
    refine wpAny_pure ⟨plainId_quiet (PyProof.Rows.F.plain_set_update_loop) _, fill W hSf xs nd hn hb hv left (i + 1) _ (by omega) (W.frame _ s1 _ _ st1 (Nat.le_succ _) fun b hb o e => ?_) hS3 fun s'' hm2 hS'' => fin s'' (Moved.trans W.gtrans ((hm.mono fun b hb => List.mem_cons_of_mem _ hb).then_heap (Nat.le_succ _) fun b o hb e => ?_) hm2) hS''⟩
    · rw [only.2 b (fun z => hSf (z ▸ hb))]; exact e
    · rw [only.2 b (fun z => hb (z ▸ List.mem_cons_self ..))]; exact e
end
section
variable {prog : Program} {w : World} {A : Around} {E : Value → Shared → Prop} {s : Shared}
theorem strs_at : ∀ {us : List Value} {xs : List Str}, Vals (xs.map V.str) us → ∀ (i : Nat) (v : Value), us[i]? = some v → ∃ t, v = .str (xs.getD i Str.empty) t
  | _, [], .nil, i, v, h => by simp at h
  | _, x :: xs, .cons r t, 0, v, h => by
    obtain ⟨k, rfl⟩ := r
    simp at h
    exact ⟨k, h.symm⟩
  | _, x :: xs, .cons r t, i + 1, v, h => strs_at t i v (by simpa using h)
theorem set_of {l : Addr} {items : Array Value} {xs : List Str} {Q : Value → Shared → Prop} (hh : A.handled = none) (hl : s.heap.IsList l items) (hi : Vals (xs.map V.str) items.toList) (nd : xs.Nodup) (hb : items.size + 1 < scanBound)
    (h : ∀ (h' : Heap) (tk : Nat), Has prog w s.heap.objs.size xs items.size h' → (∀ b o, b < s.heap.objs.size → s.heap.get? b = some o → h'.get? b = some o) → Q (.ref s.heap.objs.size) { s with heap := h', toks := tk }) :
    wpAny (model prog w) A (call (.type "set") [.ref l]) Q E s := by
  obtain ⟨c, tl, hmro⟩ := PySem.F.called_set.mro
  have m1 := PySem.F.called_set.made
  have m2 := PySem.F.called_set.sub
  have m3 := PySem.F.called_set.notType
  have m4 := PySem.F.called_set.canCreate
  have m5 := PySem.F.typeCall_set_1 (.ref l)
  refine wpAny_call (codeAny_of_tree ?_)
  show wpAny _ _ (callAny (.type "set") ⟨[.ref l], []⟩) _ _ _
  refine wpAny_pure ⟨Code.quiet_builtin _ (by decide +kernel), codeAny_builtin (PySem.F.entry_type_call) ?_⟩
  rw [Around.under_plain (weight_type_call_type "set" [.ref l] []) rfl]
  repeat (any_goals (first | assumption | wp_step))
  let empty : Bool → Obj := fun led => { cls := .type "set", dict := none, data := .set #[] 0 (.fresh 0 0 led) }
  refine codeAny_mono (code_set_new_1 (.ref l) (E := E) (Q₁ := fun ob s1 => ∃ led : Bool, ob = .ref s.heap.objs.size ∧ s1 = { s with heap := s.heap.push (empty led) }) fun led => ⟨led, rfl, rfl⟩) fun r s1 hr => ?_
  cases r with
  | error e => exact hr
  | ok fl => cases fl with
    | ret ob =>
      obtain ⟨led, rfl, rfl⟩ := hr
      have at0 : (s.heap.push (empty led)).get? s.heap.objs.size = some (empty led) := Heap.get?_push_size _ rfl
      have ty : Shared.TypeIs { s with heap := s.heap.push (empty led) } (.ref s.heap.objs.size) "set" := ⟨_, at0, rfl⟩
      have m6 := PySem.F.called_set.init.lookup
      have m7 := PySem.F.called_set.init.bind (.ref s.heap.objs.size)
      repeat (any_goals (first | assumption | wp_step))
      refine codeAny_mono (codeAny_call_builtin (R := wants (fun r s2 => r = .none ∧ ∃ h' tk, s2 = { s with heap := h', toks := tk } ∧ Has prog w s.heap.objs.size xs items.size h' ∧ (∀ b o, b < s.heap.objs.size → s.heap.get? b = some o → h'.get? b = some o)) E)
        PySem.F.called_set.init.plain PySem.F.entry_set_init (check_set_init_1 ty ?_)) fun r2 s2 hr2 => ?_
      · obtain ⟨⟨oc, od, da, sl⟩, ho, hc, nl, hd⟩ := hl
        simp only at hc hd
        subst hc hd
        have at1 : (s.heap.push (empty led)).get? l = some { cls := .type "list", dict := od, data := .seq items nl, slots := sl } := Heap.get?_push_of_some _ ho
        have k1 := PySem.F.sub_list_set
        have k2 := PySem.F.sub_list_frozenset
        have k3 : (Value.type "list" == Value.type "dict") = false := by decide
        have isl : (s.heap.push (empty led)).IsList l items := ⟨_, at1, rfl, nl, rfl⟩
        unfold Builtin.«set.__init__» noKeywords Builtin.Frozenset.updateFrom
        generalize hPI : pyIter = PI
        wp_walk
        subst hPI
        have lts : l < s.heap.objs.size := Heap.lt_size ho
        have psz : (s.heap.push (empty led)).objs.size = s.heap.objs.size + 1 := Heap.size_push _ _
        refine wpAny_pyIter_list isl (wpAny_bind (wpAny_runValue ?_))
        refine fill ((Walks.list (show A.in1.in1.in1.handled = none by simp [hh]) _ l (by rw [psz]; exact Nat.ne_of_lt (Nat.lt_succ_of_lt lts)) items).toS)
          (by rw [psz]; simp only [List.mem_cons, List.mem_singleton, List.not_mem_nil, or_false, not_or]; exact ⟨Nat.ne_of_lt (Nat.lt_succ_self _), Nat.ne_of_gt lts⟩)
          xs nd (by rw [← Array.length_toList, ← hi.length, List.length_map]) hb (fun i v hv => strs_at hi i v (by rw [Array.getElem?_toList]; exact hv)) items.size 0 _ (Nat.zero_add _) ⟨⟨_, Heap.get?_push_size _ rfl, rfl, rfl⟩, isl.push _⟩ ?start ?stop
        case start =>
          have at2 : ((s.heap.push (empty led)).push { cls := .type "list_iterator", data := .fields #[.ref l, .int 0 0] }).get? s.heap.objs.size = some (empty led) := Heap.get?_push_of_some _ at0
          exact SetOf_congr ((setObjOf_fresh (knd := PySem.strKind prog w) led).setOf at2 (by unfold scanBound; omega)) (fun _ => rfl) rfl
        case stop =>
          rintro ⟨h', g', d', tk', os'⟩ hm hS'
          obtain rfl : g' = s.gens := hm.gens
          obtain rfl : d' = s.drawn := hm.drawn
          obtain rfl : os' = s.os := hm.os
          refine wpAny_pure ?_
          show wpAny _ _ (ret Value.none) _ _ _
          refine wpAny_pure ⟨rfl, h', tk', rfl, hS', fun b o hb e => hm.heap b o ?_ (Heap.get?_push_of_some _ (Heap.get?_push_of_some _ e))⟩
          rw [psz]
          simp only [List.mem_cons, List.mem_singleton, List.not_mem_nil, or_false, not_or]
          exact ⟨Nat.ne_of_lt hb, Nat.ne_of_lt (Nat.lt_succ_of_lt hb)⟩
      · cases r2 with
        | error e => exact hr2
        | ok fl2 => cases fl2 with
          | ret r =>
            obtain ⟨rfl, h', tk, rfl, z1, z2⟩ := hr2
            repeat (any_goals (first | assumption | wp_step))
            exact h _ _ z1 z2
          | _ => exact hr2.elim
    | _ => exact hr.elim
end
section
variable {X : Cx} {a : Expr} {ta : TE} {p p2 q pos : Pos}
def tLenSetS (K : PySem.W.Frag) (ta : TE) : TE := fun σ H Q => ta σ H fun x H1 => ∃ (l : Addr) (xs : List Str), x = .ref l ∧ SqL K H1 l (xs.map V.str) ∧ xs.Nodup ∧ xs.length ≤ 4000 ∧ Q (.int (xs.length : Nat)) H1
theorem pe_lenSetS (hc : X.calm = true) (hg : Gl X "len") (hm : X.mg "len" = none) (hg2 : Gl X "set") (hm2 : X.mg "set" = none) (ha : PE X a ta) (na : starEach [a] X.env = (false, eval a X.env) :: starEach [] X.env := by rfl) :
    PE X (.Call (.Name "len" p) [.Call (.Name "set" p2) [a] [] q] [] pos) (tLenSetS X.K ta) := by
  refine ⟨fun pins s σ H Q I h => Call_ (ld_blt I hg hm boot_len (callWith_builtin1 (args_cons ?_ rfl) rfl rfl))⟩
  refine Call_ (ld_blt I hg2 hm2 boot_set (callWith_type1 (args_cons (thn (ha.run pins s σ H _ I h) fun v s1 z => args_nil ?_) na) na rfl))
  obtain ⟨x, H1, I1, r1, l, xs, rfl, hq, nd, hl, q1⟩ := z
  cases r1
  obtain ⟨its, r, pl, hz⟩ := I1.list hq
  have sz : its.toArray.size = xs.length := by rw [List.size_toArray, ← r.length, List.length_map]
  refine set_of (I1.ok.hd hc) pl.isList (by simpa using r) nd (by rw [sz]; unfold scanBound; omega) fun h' tk hS hk => args_nil ?_
  rw [sz] at hS
  obtain ⟨o, es, ep, t, ho, hex, hd, _, _, _, hf, hn⟩ := hS
  have I2 : Inv X pins σ H1 { s1 with heap := h', toks := tk } := I1.kept fun b o e => hk b o (Heap.lt_size e) e
  exact call_len_set ho hex hd hf (by rw [hn]; omega) ⟨.int xs.length, H1, I2.tok _, ⟨_, by rw [hn]⟩, q1⟩
end
end NbT

set_option Elab.async false
set_option linter.all false
set_option maxRecDepth 100000
set_option maxHeartbeats 8000000
/-! sorted(set(xs)) of a list of whole numbers. -/
namespace NbU
open PySem PySem.Spec PyProof.Rows L2
section
variable {P : Program} {w : World} {A : Around} {E : Value → Shared → Prop} {s : Shared}
theorem ints_at : ∀ {us : List Value} {xs : List Int}, Vals (xs.map V.int) us → ∀ (i : Nat) (v : Value), us[i]? = some v → ∃ k t, xs[i]? = some k ∧ v = .int k t
  | _, [], .nil, i, v, h => by simp at h
  | _, x :: xs, .cons r t, 0, v, h => by
    obtain ⟨k, rfl⟩ := r
    simp at h
    exact ⟨x, k, rfl, h.symm⟩
  | _, x :: xs, .cons r t, i + 1, v, h => ints_at (us := _) t i v (by simpa using h)
theorem set_ints {l : Addr} {items : Array Value} {xs : List Int} {Q : Value → Shared → Prop} (hh : A.handled = none) (hl : s.heap.IsList l items) (hi : Vals (xs.map V.int) items.toList) (hb : xs.length + 1 < scanBound)
    (h : ∀ (h' : Heap) (tk c : Nat), SetR w h' s.heap.objs.size (fun j => decide (j ∈ xs)) c → c ≤ xs.length → (∀ b o, b < s.heap.objs.size → s.heap.get? b = some o → h'.get? b = some o) → Q (.ref s.heap.objs.size) { s with heap := h', toks := tk }) :
    wpAny (model P w) A (call (.type "set") [.ref l]) Q E s := by
  have isz : items.size = xs.length := by rw [← Array.length_toList, ← hi.length, List.length_map]
  obtain ⟨c, tl, hmro⟩ := PySem.F.called_set.mro
  have m1 := PySem.F.called_set.made
  have m2 := PySem.F.called_set.sub
  have m3 := PySem.F.called_set.notType
  have m4 := PySem.F.called_set.canCreate
  have m5 := PySem.F.typeCall_set_1 (.ref l)
  refine wpAny_call (codeAny_of_tree ?_)
  show wpAny _ _ (callAny (.type "set") ⟨[.ref l], []⟩) _ _ _
  refine wpAny_pure ⟨Code.quiet_builtin _ (by decide +kernel), codeAny_builtin (PySem.F.entry_type_call) ?_⟩
  rw [Around.under_plain (weight_type_call_type "set" [.ref l] []) rfl]
  repeat (any_goals (first | assumption | wp_step))
  let empty : Obj := { cls := .type "set", dict := none, data := .set #[] 0 (.fresh 0 0 (!w.params.followText "set-order")) }
  refine codeAny_mono (code_set_led1 (.ref l) (E := E) (Q₁ := fun ob s1 => ob = .ref s.heap.objs.size ∧ s1 = { s with heap := s.heap.push empty }) ⟨rfl, rfl⟩) fun r s1 hr => ?_
  cases r with
  | error e => exact hr
  | ok fl => cases fl with
    | ret ob =>
      obtain ⟨rfl, rfl⟩ := hr
      have at0 : (s.heap.push empty).get? s.heap.objs.size = some empty := Heap.get?_push_size _ rfl
      have ty : Shared.TypeIs { s with heap := s.heap.push empty } (.ref s.heap.objs.size) "set" := ⟨_, at0, rfl⟩
      have m6 := PySem.F.called_set.init.lookup
      have m7 := PySem.F.called_set.init.bind (.ref s.heap.objs.size)
      repeat (any_goals (first | assumption | wp_step))
      refine codeAny_mono (codeAny_call_builtin (R := wants (fun r s2 => r = .none ∧ ∃ h' tk c, s2 = { s with heap := h', toks := tk } ∧ SetR w h' s.heap.objs.size (fun j => decide (j ∈ xs)) c ∧ c ≤ xs.length ∧ (∀ b o, b < s.heap.objs.size → s.heap.get? b = some o → h'.get? b = some o)) E)
        PySem.F.called_set.init.plain PySem.F.entry_set_init (check_set_init_1 ty ?_)) fun r2 s2 hr2 => ?_
      · obtain ⟨⟨oc, od, da, sl⟩, ho, hc, nl, hd⟩ := hl
        simp only at hc hd
        subst hc hd
        have at1 : (s.heap.push empty).get? l = some { cls := .type "list", dict := od, data := .seq items nl, slots := sl } := Heap.get?_push_of_some _ ho
        have k1 := PySem.F.sub_list_set
        have k2 := PySem.F.sub_list_frozenset
        have k3 : (Value.type "list" == Value.type "dict") = false := by decide
        have isl : (s.heap.push empty).IsList l items := ⟨_, at1, rfl, nl, rfl⟩
        unfold Builtin.«set.__init__» noKeywords Builtin.Frozenset.updateFrom
        generalize hPI : pyIter = PI
        wp_walk
        subst hPI
        have lts : l < s.heap.objs.size := Heap.lt_size ho
        have psz : (s.heap.push empty).objs.size = s.heap.objs.size + 1 := Heap.size_push _ _
        refine wpAny_pyIter_list isl (wpAny_bind (wpAny_runValue ?_))
        refine set_update_ints ((Walks.list (show A.in1.in1.in1.handled = none by simp [hh]) _ l (by rw [psz]; exact Nat.ne_of_lt (Nat.lt_succ_of_lt lts)) items).toS) s.heap.objs.size
          (by rw [psz]; simp only [List.mem_cons, List.mem_singleton, List.not_mem_nil, or_false, not_or]; exact ⟨Nat.ne_of_lt (Nat.lt_succ_self _), Nat.ne_of_gt lts⟩)
          xs isz hb (fun i v hv => ints_at hi i v (by rw [Array.getElem?_toList]; exact hv)) (items.size - 0) 0 _ (by omega) (Nat.zero_le _) ⟨⟨_, Heap.get?_push_size _ rfl, rfl, rfl⟩, isl.push _⟩ ?start ?stop
        case start =>
          have at2 : ((s.heap.push empty).push { cls := .type "list_iterator", data := .fields #[.ref l, .int 0 0] }).get? s.heap.objs.size = some empty := Heap.get?_push_of_some _ at0
          exact ⟨0, Nat.le_refl 0, setR_new_at at2⟩
        case stop =>
          rintro ⟨h', g', d', tk', os'⟩ c hm hc hS'
          obtain rfl : g' = s.gens := hm.gens
          obtain rfl : d' = s.drawn := hm.drawn
          obtain rfl : os' = s.os := hm.os
          refine wpAny_pure ?_
          show wpAny _ _ (ret Value.none) _ _ _
          rw [isz] at hc
          refine wpAny_pure ⟨rfl, h', tk', c, rfl, hS', hc, fun b o hb e => hm.heap b o ?_ (Heap.get?_push_of_some _ (Heap.get?_push_of_some _ e))⟩
          rw [psz]
          simp only [List.mem_cons, List.mem_singleton, List.not_mem_nil, or_false, not_or]
          exact ⟨Nat.ne_of_lt hb, Nat.ne_of_lt (Nat.lt_succ_of_lt hb)⟩
      · cases r2 with
        | error e => exact hr2
        | ok fl2 => cases fl2 with
          | ret r =>
            obtain ⟨rfl, h', tk, c, rfl, z1, z2, z3⟩ := hr2
            repeat (any_goals (first | assumption | wp_step))
            exact h _ _ _ z1 z2 z3
          | _ => exact hr2.elim
    | _ => exact hr.elim
end
section
variable {X : Cx}
/-- set(xs) of a list of whole numbers -/
def rSetI (K : PySem.W.Frag) (w : World) : List V → Hp → VK → Prop := fun vs H Q => ∃ (a : Addr) (ns : List Int), vs = [.ref a] ∧ SqL K H a (ns.map V.int) ∧ ns.length ≤ 4000 ∧ ∀ (p : Addr) (c : Nat), c ≤ ns.length → H p = none → Q (.ref p) (upd H p (SetO w p (fun j => decide (j ∈ ns)) c))
theorem cr_setI (hc : X.calm = true) : CallR X (.type "set") (rSetI X.K X.w) := by
  intro pins s σ H vs us Q I r h
  obtain ⟨a, ns, rfl, hs, hl, q⟩ := h
  obtain ⟨its, rv, pl, hz⟩ := I.list hs
  rw [Vals.ref1 r]
  refine set_ints (I.ok.hd hc) pl.isList (by simpa using rv) (by unfold scanBound; omega) fun h' tk c hS hn hk => ?_
  exact ⟨.ref _, upd H s.heap.objs.size (SetO X.w s.heap.objs.size (fun j => decide (j ∈ ns)) c), I.laid (t' := tk) (fun b u e => hk b u (Heap.lt_size e) e) (Nat.le_refl _) (setO_new hS), rfl, q _ c hn (I.hok.fresh (Nat.le_refl _))⟩
end
end NbU

set_option Elab.async false
set_option linter.all false
set_option maxRecDepth 100000
set_option maxHeartbeats 4000000
/-! What the package's objects are, and what its defs promise (no text here). -/
namespace NbS
open PySem PySem.Spec PyProof.Rows L2 Nb NbE

abbrev CL (K : PySem.W.Frag) : Addr := He.ga K "Log"
abbrev CO (K : PySem.W.Frag) : Addr := He.ga K "LosingLog"
/-- the two classes: losing or not -/
def C2 (K : PySem.W.Frag) : Two := fun b => if b then CO K else CL K
def kindS (b : Bool) : Str := if b then "losing" else "steady"

/-! ### kinds of values -/
inductive Kd | non | bl | int | str | lst | tup | dct | log (los : Bool)
  deriving DecidableEq
inductive Knd (K : PySem.W.Frag) (H : Hp) : V → Kd → Prop
  | non : Knd K H .non .non
  | bl (b : Bool) : Knd K H (.bl b) .bl
  | int (i : Int) : Knd K H (.int i) .int
  | str (x : Str) : Knd K H (.str x) .str
  | lst {a : Addr} {xs : List V} (e : H a = some (.lst xs)) : Knd K H (.ref a) .lst
  | tup {a : Addr} {xs : List V} (e : H a = some (.tup xs)) : Knd K H (.ref a) .tup
  | dct {a : Addr} {kvs : List (Key × V)} (e : H a = some (.dK kvs)) : Knd K H (.ref a) .dct
  | log {a dx : Addr} {los : Bool} {fs : List (Str × V)} (e : H a = some (.ins (C2 K los) dx fs)) : Knd K H (.ref a) (.log los)
def tyN : Kd → String
  | .non => "NoneType" | .bl => "bool" | .int => "int" | .str => "str" | .lst => "list" | .tup => "tuple" | .dct => "dict" | .log _ => ""
/-- the type as a value -/
def tyV' (K : PySem.W.Frag) : Kd → Value
  | .log b => .ref (C2 K b)
  | d => .type (tyN d)
/-- isinstance with a built-in class -/
def isB (d : Kd) (c : String) : Bool := tyN d == c || (d == .bl && c == "int")
/-- what the classes must be -/
structure LF (K : PySem.W.Frag) : Prop where
  cl : ∀ b, Cls K (C2 K b)
  nS : ∀ b, NoAttr K (C2 K b) "_size"
  nV : ∀ b, NoAttr K (C2 K b) "_servers"
  nE : ∀ b, NoAttr K (C2 K b) "_entries"
  ca : ∀ b, PySem.W.findIn K (.ref (C2 K b)) "__class__" = some (some (.builtin "object.__class__"))
  cn : PySem.W.specialIn K (.builtin "object.__class__") "__get__" = some (some (.builtin "getset_descriptor.__get__"))
  ct : PySem.W.takesIn K (.builtin "object.__class__") = some true
  cm : ∀ b, PySem.W.mroIn K (C2 K b) (.type "object") = some true
  kB : ∀ b, PySem.W.kitOne K (.ref (C2 K b)) (.type "int") = some false ∧ PySem.W.kitOne K (.ref (C2 K b)) (.type "bool") = some false ∧ PySem.W.kitOne K (.ref (C2 K b)) (.type "str") = some false ∧
    PySem.W.kitOne K (.ref (C2 K b)) (.type "list") = some false ∧ PySem.W.kitOne K (.ref (C2 K b)) (.type "tuple") = some false
  kT : ∀ b, PySem.W.kitOne K (.type "NoneType") (.ref (C2 K b)) = some false ∧ PySem.W.kitOne K (.type "bool") (.ref (C2 K b)) = some false ∧ PySem.W.kitOne K (.type "int") (.ref (C2 K b)) = some false ∧ PySem.W.kitOne K (.type "str") (.ref (C2 K b)) = some false ∧
    PySem.W.kitOne K (.type "list") (.ref (C2 K b)) = some false ∧ PySem.W.kitOne K (.type "tuple") (.ref (C2 K b)) = some false ∧ PySem.W.kitOne K (.type "dict") (.ref (C2 K b)) = some false
  k10 : PySem.W.kitOne K (.ref (C2 K true)) (.ref (C2 K false)) = some true
  k01 : PySem.W.kitOne K (.ref (C2 K false)) (.ref (C2 K true)) = some false
  sT : ∀ b, PySem.W.subIn K (.type "NoneType") (.ref (C2 K b)) = some false ∧ PySem.W.subIn K (.type "bool") (.ref (C2 K b)) = some false ∧ PySem.W.subIn K (.type "int") (.ref (C2 K b)) = some false ∧ PySem.W.subIn K (.type "str") (.ref (C2 K b)) = some false ∧
    PySem.W.subIn K (.type "list") (.ref (C2 K b)) = some false ∧ PySem.W.subIn K (.type "tuple") (.ref (C2 K b)) = some false ∧ PySem.W.subIn K (.type "dict") (.ref (C2 K b)) = some false
  s10 : PySem.W.subIn K (.ref (C2 K true)) (.ref (C2 K false)) = some true
  s01 : PySem.W.subIn K (.ref (C2 K false)) (.ref (C2 K true)) = some false
  ne : C2 K true ≠ C2 K false
  con : ∀ b, ∃ u, Con K (C2 K b) "KIND" (.str (kindS b)) u
  rd : ∀ b, ClX.CRead K (C2 K b) (.type "type")
  cv : ∀ b, ∃ u, ClX.CVal K (C2 K b) (.type "type") "KIND" (.str (kindS b)) u
theorem kit_same (K : PySem.W.Frag) (t : Value) : PySem.W.kitOne K t t = some true := by
  unfold PySem.W.kitOne
  rw [if_pos (by simp)]
section
variable {K : PySem.W.Frag} {H H' : Hp} {x : V} {d : Kd}
theorem Knd.ty (F : LF K) (k : Knd K H x d) : TyX K H x (tyV' K d) := by
  cases k with
  | non => exact .base .non
  | bl b => exact .base (.bl b)
  | int i => exact .base (.int i)
  | str x => exact .base (.str x)
  | lst e => exact .base (.lst e)
  | tup e => exact .base (.tup e)
  | dct e => exact .base (.dK e)
  | @log a dx los fs e => exact .base (.ins e (F.cl los) (F.ca los) F.cn F.ct (F.cm los))
theorem Knd.same (e : Same H H') (k : Knd K H x d) : Knd K H' x d := by
  cases k with
  | non => exact .non
  | bl b => exact .bl b
  | int i => exact .int i
  | str x => exact .str x
  | lst h => exact .lst (e _ _ h)
  | tup h => exact .tup (e _ _ h)
  | dct h => exact .dct (e _ _ h)
  | log h => exact .log (e _ _ h)
theorem kit_b {a b : String} {r : Bool} (h : kitB a b = some r) : PySem.W.kitOne K (.type a) (.type b) = some r := h
theorem Knd.kit (F : LF K) (d : Kd) {c : String} (hc : c = "int" ∨ c = "bool" ∨ c = "str" ∨ c = "list" ∨ c = "tuple") : PySem.W.kitOne K (tyV' K d) (.type c) = some (isB d c) := by
  cases d with
  | log b =>
    obtain ⟨k1, k2, k3, k4, k5⟩ := F.kB b
    rcases hc with rfl | rfl | rfl | rfl | rfl
    · exact k1
    · exact k2
    · exact k3
    · exact k4
    · exact k5
  | _ => rcases hc with rfl | rfl | rfl | rfl | rfl <;> exact kit_ty (by decide +kernel)
/-- isinstance(x, T), T a built-in class -/
theorem isi_b (F : LF K) (k : Knd K H x d) {c : String} (hc : c = "int" ∨ c = "bool" ∨ c = "str" ∨ c = "list" ∨ c = "tuple") {Q : VK} (q : Q (.bl (isB d c)) H) : rIsi K [x, .ty c] H Q :=
  ⟨x, .ty c, _, _, _, rfl, .ty c, k.ty F, Knd.kit F d hc, q⟩
def isLogOf (d : Kd) (b : Bool) : Bool := match d with
  | .log c => !b || c
  | _ => false
theorem Knd.kitL (F : LF K) (d : Kd) (b : Bool) : PySem.W.kitOne K (tyV' K d) (.ref (C2 K b)) = some (isLogOf d b) := by
  obtain ⟨k1, k2, k3, k4, k5, k6, k7⟩ := F.kT b
  cases d with
  | non => exact k1
  | bl => exact k2
  | int => exact k3
  | str => exact k4
  | lst => exact k5
  | tup => exact k6
  | dct => exact k7
  | log c =>
    cases c <;> cases b
    · exact kit_same K _
    · exact F.k01
    · exact F.k10
    · exact kit_same K _
/-- isinstance(x, Log), isinstance(x, LosingLog) -/
theorem isi_l (F : LF K) (k : Knd K H x d) (b : Bool) {Q : VK} (q : Q (.bl (isLogOf d b)) H) : rIsi K [x, .ref (C2 K b)] H Q :=
  ⟨x, .ref (C2 K b), _, _, _, rfl, .own _, k.ty F, Knd.kitL F d b, q⟩
theorem Knd.not1st (F : LF K) (d : Kd) (c : Bool) (h : ¬ (c = false ∧ d = .log true)) : PySem.W.notFirst K (C2 K c) (tyV' K d) = true := by
  obtain ⟨k1, k2, k3, k4, k5, k6, k7⟩ := F.sT c
  unfold PySem.W.notFirst
  rw [Bool.or_eq_true]
  cases d with
  | non => exact .inr (beq_iff_eq.mpr k1)
  | bl => exact .inr (beq_iff_eq.mpr k2)
  | int => exact .inr (beq_iff_eq.mpr k3)
  | str => exact .inr (beq_iff_eq.mpr k4)
  | lst => exact .inr (beq_iff_eq.mpr k5)
  | tup => exact .inr (beq_iff_eq.mpr k6)
  | dct => exact .inr (beq_iff_eq.mpr k7)
  | log b =>
    cases b <;> cases c
    · exact .inl (beq_self_eq_true _)
    · exact .inr (beq_iff_eq.mpr F.s01)
    · exact absurd ⟨rfl, rfl⟩ h
    · exact .inl (beq_self_eq_true _)
end

/-! ### texts as names -/
def nameOk (z : Str) : Bool := decide (z.length ≤ 8) && (Txt.isascii z && (Txt.isalpha z && Txt.islower z))
structure Crew (ns : List Str) : Prop where
  few : 1 ≤ ns.length ∧ ns.length ≤ 12
  nd : ns.Nodup
  ok : ∀ z ∈ ns, nameOk z = true

/-! ### entries, logs -/
abbrev En := Str × Int
def Ents (H : Hp) : List Addr → List En → Prop
  | [], [] => True
  | t :: ts, e :: es => H t = some (.tup [.str e.1, .int e.2]) ∧ Ents H ts es
  | _, _ => False
/-- a list of entries at s -/
def EntsAt (H : Hp) (s : Addr) (es : List En) : Prop := ∃ ts, H s = some (.lst (ts.map V.ref)) ∧ Ents H ts es
def CrewAt (H : Hp) (c : Addr) (ns : List Str) : Prop := H c = some (.lst (ns.map V.str))
def fsL (z : Int) (ls le : Addr) : List (Str × V) := [("_size", .int z), ("_servers", .ref ls), ("_entries", .ref le)]
theorem fsL_put (z : Int) (ls le : Addr) : putF "_entries" (.ref le) (putF "_servers" (.ref ls) (putF "_size" (.int z) [])) = fsL z ls le := by
  have h1 : ¬ (("_size" : Str) = "_servers") := by decide +kernel
  have h2 : ¬ (("_size" : Str) = "_entries") := by decide +kernel
  have h3 : ¬ (("_servers" : Str) = "_entries") := by decide +kernel
  simp only [putF, if_neg h1, if_neg h2, if_neg h3]
  rfl
theorem fsL_size (z : Int) (ls le : Addr) : (fsL z ls le).lookup ("_size" : Str) = some (.int z) := by
  unfold fsL
  rw [List.lookup_cons, show (("_size" : Str) == ("_size" : Str)) = true by decide +kernel]
theorem fsL_servers (z : Int) (ls le : Addr) : (fsL z ls le).lookup ("_servers" : Str) = some (.ref ls) := by
  unfold fsL
  rw [List.lookup_cons, show (("_servers" : Str) == ("_size" : Str)) = false by decide +kernel, List.lookup_cons, show (("_servers" : Str) == ("_servers" : Str)) = true by decide +kernel]
theorem fsL_entries (z : Int) (ls le : Addr) : (fsL z ls le).lookup ("_entries" : Str) = some (.ref le) := by
  unfold fsL
  rw [List.lookup_cons, show (("_entries" : Str) == ("_size" : Str)) = false by decide +kernel, List.lookup_cons, show (("_entries" : Str) == ("_servers" : Str)) = false by decide +kernel, List.lookup_cons,
    show (("_entries" : Str) == ("_entries" : Str)) = true by decide +kernel]
theorem fsL_no {m : Str} (h1 : (m == ("_size" : Str)) = false) (h2 : (m == ("_servers" : Str)) = false) (h3 : (m == ("_entries" : Str)) = false) (z : Int) (ls le : Addr) : (fsL z ls le).lookup m = none := by
  unfold fsL
  rw [List.lookup_cons, h1, List.lookup_cons, h2, List.lookup_cons, h3]
  rfl
def enOk (ns : List Str) (e : En) : Bool := decide (e.1 ∈ ns) && decide (0 ≤ e.2)
def SizeOk (z : Int) : Prop := 1 ≤ z ∧ z ≤ 10 ^ 30
structure EnsOk (ns : List Str) (es : List En) : Prop where
  few : es.length ≤ 200
  ok : ∀ e ∈ es, enOk ns e = true
structure WF (z : Int) (ns : List Str) (es : List En) : Prop where
  sz : SizeOk z
  cr : Crew ns
  en : EnsOk ns es
/-- a log at p -/
def LogAt (K : PySem.W.Frag) (H : Hp) (p : Addr) (b : Bool) (z : Int) (ns : List Str) (es : List En) : Prop :=
  ∃ dx ls le, H p = some (.ins (C2 K b) dx (fsL z ls le)) ∧ CrewAt H ls ns ∧ EntsAt H le es ∧ WF z ns es
/-- .. its own lists at ls, le -/
def LogX (K : PySem.W.Frag) (H : Hp) (p : Addr) (b : Bool) (z : Int) (ns : List Str) (es : List En) (ls le : Addr) : Prop :=
  ∃ dx, H p = some (.ins (C2 K b) dx (fsL z ls le)) ∧ CrewAt H ls ns ∧ EntsAt H le es ∧ WF z ns es
theorem LogX.log {K : PySem.W.Frag} {H : Hp} {p : Addr} {b : Bool} {z : Int} {ns : List Str} {es : List En} {ls le : Addr} (h : LogX K H p b z ns es ls le) : LogAt K H p b z ns es := by
  obtain ⟨dx, h1, h2, h3, h4⟩ := h
  exact ⟨dx, ls, le, h1, h2, h3, h4⟩
theorem Ents.len {H : Hp} : ∀ {ts : List Addr} {es : List En}, Ents H ts es → ts.length = es.length
  | [], [], _ => rfl
  | _ :: _, _ :: _, h => by rw [List.length_cons, List.length_cons, Ents.len h.2]
  | [], _ :: _, h => h.elim
  | _ :: _, [], h => h.elim
theorem Ents.imp {H H' : Hp} (k : ∀ t xs, H t = some (.tup xs) → H' t = some (.tup xs)) : ∀ {ts : List Addr} {es : List En}, Ents H ts es → Ents H' ts es
  | [], [], _ => trivial
  | _ :: _, _ :: _, h => ⟨k _ _ h.1, Ents.imp k h.2⟩
  | [], _ :: _, h => h.elim
  | _ :: _, [], h => h.elim
theorem Ents.get {H : Hp} : ∀ {ts : List Addr} {es : List En} {i : Nat} {t : Addr}, Ents H ts es → ts[i]? = some t → ∃ e, es[i]? = some e ∧ H t = some (.tup [.str e.1, .int e.2])
  | t :: ts, e :: es, 0, _, h, g => by
    simp at g; subst g
    exact ⟨e, rfl, h.1⟩
  | t :: ts, e :: es, i + 1, _, h, g => by
    obtain ⟨e', h1, h2⟩ := Ents.get h.2 (by simpa using g)
    exact ⟨e', by simpa using h1, h2⟩
  | [], [], _, _, _, g => by simp at g
  | [], _ :: _, _, _, h, _ => h.elim
  | _ :: _, [], _, _, h, _ => h.elim
theorem Ents.get' {H : Hp} : ∀ {ts : List Addr} {es : List En} {i : Nat} {e : En}, Ents H ts es → es[i]? = some e → ∃ t, ts[i]? = some t ∧ H t = some (.tup [.str e.1, .int e.2])
  | t :: ts, e :: es, 0, _, h, g => by
    simp at g; subst g
    exact ⟨t, rfl, h.1⟩
  | t :: ts, e :: es, i + 1, _, h, g => by
    obtain ⟨e', h1, h2⟩ := Ents.get' h.2 (by simpa using g)
    exact ⟨e', by simpa using h1, h2⟩
  | [], [], _, _, _, g => by simp at g
  | [], _ :: _, _, _, h, _ => h.elim
  | _ :: _, [], _, _, h, _ => h.elim
theorem Ents.app {H : Hp} {t : Addr} {e : En} (ht : H t = some (.tup [.str e.1, .int e.2])) : ∀ {ts : List Addr} {es : List En}, Ents H ts es → Ents H (ts ++ [t]) (es ++ [e])
  | [], [], _ => ⟨ht, trivial⟩
  | _ :: _, _ :: _, h => ⟨h.1, Ents.app ht h.2⟩
  | [], _ :: _, h => h.elim
  | _ :: _, [], h => h.elim
theorem Ents.cat {H : Hp} : ∀ {ts : List Addr} {es : List En} {ts' : List Addr} {es' : List En}, Ents H ts es → Ents H ts' es' → Ents H (ts ++ ts') (es ++ es')
  | [], [], _, _, _, h => h
  | _ :: _, _ :: _, _, _, h, h' => ⟨h.1, Ents.cat h.2 h'⟩
  | [], _ :: _, _, _, h, _ => h.elim
  | _ :: _, [], _, _, h, _ => h.elim
theorem Ents.take {H : Hp} : ∀ {ts : List Addr} {es : List En} (n : Nat), Ents H ts es → Ents H (ts.take n) (es.take n)
  | _, _, 0, _ => by simp [Ents]
  | [], [], _ + 1, _ => by simp [Ents]
  | _ :: _, _ :: _, n + 1, h => ⟨h.1, Ents.take n h.2⟩
  | [], _ :: _, _ + 1, h => h.elim
  | _ :: _, [], _ + 1, h => h.elim
theorem Ents.drop {H : Hp} : ∀ {ts : List Addr} {es : List En} (n : Nat), Ents H ts es → Ents H (ts.drop n) (es.drop n)
  | _, _, 0, h => h
  | [], [], _ + 1, _ => by simp [Ents]
  | _ :: _, _ :: _, n + 1, h => Ents.drop n h.2
  | [], _ :: _, _ + 1, h => h.elim
  | _ :: _, [], _ + 1, h => h.elim
theorem Ents.set {H : Hp} {t : Addr} {e : En} (ht : H t = some (.tup [.str e.1, .int e.2])) : ∀ {ts : List Addr} {es : List En} (n : Nat), Ents H ts es → Ents H (ts.set n t) (es.set n e)
  | [], [], _, h => h
  | _ :: _, _ :: _, 0, h => ⟨ht, h.2⟩
  | _ :: _, _ :: _, n + 1, h => ⟨h.1, Ents.set ht n h.2⟩
  | [], _ :: _, _, h => h.elim
  | _ :: _, [], _, h => h.elim
/-! what stays -/
section
variable {K : PySem.W.Frag} {H H' : Hp} {fa p a : Addr} {b : Bool} {z : Int} {ns : List Str} {es : List En}
theorem EntsAt.same (e : Same H H') (h : EntsAt H a es) : EntsAt H' a es := by
  obtain ⟨ts, h1, h2⟩ := h
  exact ⟨ts, e _ _ h1, h2.imp fun t xs q => e _ _ q⟩
theorem CrewAt.same (e : Same H H') (h : CrewAt H a ns) : CrewAt H' a ns := e _ _ h
theorem LogAt.same (e : Same H H') (h : LogAt K H p b z ns es) : LogAt K H' p b z ns es := by
  obtain ⟨dx, ls, le, h1, h2, h3, h4⟩ := h
  exact ⟨dx, ls, le, e _ _ h1, h2.same e, h3.same e, h4⟩
theorem ne_refs {ts : List Addr} (f : Feed H fa) (h : H a = some (.lst (ts.map V.ref))) : a ≠ fa := by
  obtain ⟨x, y, z, e⟩ := f
  rintro rfl
  rw [h] at e
  cases ts with
  | nil => cases e
  | cons t ts => cases e
theorem ne_strs (f : Feed H fa) (h : H a = some (.lst (ns.map V.str))) : a ≠ fa := by
  obtain ⟨x, y, z, e⟩ := f
  rintro rfl
  rw [h] at e
  cases ns with
  | nil => cases e
  | cons t ts => cases e
theorem ne_tup {xs : List V} (f : Feed H fa) (h : H a = some (.tup xs)) : a ≠ fa := by
  obtain ⟨x, y, z, e⟩ := f
  rintro rfl
  rw [h] at e
  cases e
theorem ne_ins {C dx : Addr} {fs : List (Str × V)} (f : Feed H fa) (h : H a = some (.ins C dx fs)) : a ≠ fa := by
  obtain ⟨x, y, z, e⟩ := f
  rintro rfl
  rw [h] at e
  cases e
theorem EntsAt.stp (f : Feed H fa) (e : Stp fa H H') (h : EntsAt H a es) : EntsAt H' a es := by
  obtain ⟨ts, h1, h2⟩ := h
  exact ⟨ts, e.kp _ _ (ne_refs f h1) h1, h2.imp fun t xs q => e.kp _ _ (ne_tup f q) q⟩
theorem CrewAt.stp (f : Feed H fa) (e : Stp fa H H') (h : CrewAt H a ns) : CrewAt H' a ns := e.kp _ _ (ne_strs f h) h
theorem LogAt.stp (f : Feed H fa) (e : Stp fa H H') (h : LogAt K H p b z ns es) : LogAt K H' p b z ns es := by
  obtain ⟨dx, ls, le, h1, h2, h3, h4⟩ := h
  exact ⟨dx, ls, le, e.kp _ _ (ne_ins f h1) h1, h2.stp f e, h3.stp f e, h4⟩
end
/-! ### data -/
def enD (e : En) : PyData := .tuple [.str e.1, .int e.2]
theorem Ents.dp {K : PySem.W.Frag} {H : Hp} : ∀ {ts : List Addr} {es : List En}, Ents H ts es → DpAll K H (ts.map V.ref) (es.map enD)
  | [], [], _ => .nil
  | _ :: _, _ :: _, h => .cons (.tup (.inl (.inl h.1)) (.cons (.str _) (.cons (.int _) .nil))) (Ents.dp h.2)
  | [], _ :: _, h => h.elim
  | _ :: _, [], h => h.elim
theorem EntsAt.dp {K : PySem.W.Frag} {H : Hp} {a : Addr} {es : List En} (h : EntsAt H a es) : Dp K H (.ref a) (.list (es.map enD)) := by
  obtain ⟨ts, h1, h2⟩ := h
  exact .lst (SqL.of h1) h2.dp
theorem strs_dp {K : PySem.W.Frag} {H : Hp} : ∀ ns : List Str, DpAll K H (ns.map V.str) (ns.map PyData.str)
  | [] => .nil
  | n :: ns => .cons (.str n) (strs_dp ns)
theorem CrewAt.dp {K : PySem.W.Frag} {H : Hp} {a : Addr} {ns : List Str} (h : CrewAt H a ns) : Dp K H (.ref a) (.list (ns.map PyData.str)) := .lst (SqL.of h) (strs_dp ns)

/-! ### the facts as truth values -/
theorem all_at {l : List Bool} (h : l.all id = true) (i : Nat) {b : Bool} (e : l[i]? = some b := by rfl) : b = true := List.all_eq_true.mp h b (List.mem_of_getElem? e)
def eqB (a b : Option Bool) : Bool := decide (a = b)
def conT (K : PySem.W.Frag) (C : Addr) (f z : Str) : Bool := match PySem.W.findIn K (.ref C) f with
  | some (some (.str y t)) => decide (y = z) && decide (PySem.W.specialIn K (.str y t) "__get__" = some none)
  | _ => false
theorem conT_ok {K : PySem.W.Frag} {C : Addr} {f z : Str} (h : conT K C f z = true) (hc : PySem.W.copiedNames.contains f = false) : ∃ u, Con K C f (.str z) u := by
  unfold conT at h
  cases e : PySem.W.findIn K (.ref C) f with
  | none => rw [e] at h; cases h
  | some o =>
    rw [e] at h
    cases o with
    | none => cases h
    | some v =>
      cases v with
      | str y t =>
        obtain ⟨h1, h2⟩ := He.ba h
        cases of_decide_eq_true h1
        exact ⟨_, e, ⟨t, rfl⟩, of_decide_eq_true h2, hc⟩
      | _ => cases h
def cvT (K : PySem.W.Frag) (C : Addr) (f z : Str) : Bool := match PySem.W.findCls K (.ref C) (.type "type") f with
  | some (.val (.str y _)) => decide (y = z)
  | _ => false
theorem cvT_ok {K : PySem.W.Frag} {C : Addr} {f z : Str} (h : cvT K C f z = true) : ∃ u, ClX.CVal K C (.type "type") f (.str z) u := by
  unfold cvT at h
  split at h
  · rename_i y t e
    cases of_decide_eq_true h
    exact ⟨_, e, ⟨t, rfl⟩⟩
  · cases h
theorem cread_at {K : PySem.W.Frag} {C : Addr} (h : PySem.W.readsIn K C (.type "type") = true) : ClX.CRead K C (.type "type") := by
  refine ⟨h, ?_⟩
  have h' := h
  unfold PySem.W.readsIn at h'
  obtain ⟨h', _⟩ := He.ba h'
  obtain ⟨h', _⟩ := He.ba h'
  obtain ⟨h', h3⟩ := He.ba h'
  obtain ⟨_, h2⟩ := He.ba h'
  unfold PySem.W.specialIn
  rw [beq_iff_eq.mp h2, Option.bind_some]
  exact beq_iff_eq.mp h3
def kitsT (K : PySem.W.Frag) (C : Addr) : List Bool :=
  ["int", "bool", "str", "list", "tuple"].map (fun c => eqB (PySem.W.kitOne K (.ref C) (.type c)) (some false)) ++
  (["NoneType", "bool", "int", "str", "list", "tuple", "dict"].map (fun c => eqB (PySem.W.kitOne K (.type c) (.ref C)) (some false)) ++
   ["NoneType", "bool", "int", "str", "list", "tuple", "dict"].map (fun c => eqB (PySem.W.subIn K (.type c) (.ref C)) (some false)))
def clsT (K : PySem.W.Frag) (x : Str) (k : Str) : List Bool :=
  [(He.Fa.cls x).ok K, (He.Fa.noat x "_size").ok K, (He.Fa.noat x "_servers").ok K, (He.Fa.noat x "_entries").ok K, He.eqO (PySem.W.findIn K (.ref (He.ga K x)) "__class__") (some (some (.builtin "object.__class__"))),
   eqB (PySem.W.mroIn K (He.ga K x) (.type "object")) (some true), conT K (He.ga K x) "KIND" k]
def lfL (K : PySem.W.Frag) : List Bool :=
  clsT K "Log" "steady" ++ (clsT K "LosingLog" "losing" ++ (kitsT K (CL K) ++ (kitsT K (CO K) ++
  [He.eqO (PySem.W.specialIn K (.builtin "object.__class__") "__get__") (some (some (.builtin "getset_descriptor.__get__"))), eqB (PySem.W.takesIn K (.builtin "object.__class__")) (some true),
   eqB (PySem.W.kitOne K (.ref (CO K)) (.ref (CL K))) (some true), eqB (PySem.W.kitOne K (.ref (CL K)) (.ref (CO K))) (some false), eqB (PySem.W.subIn K (.ref (CO K)) (.ref (CL K))) (some true), eqB (PySem.W.subIn K (.ref (CL K)) (.ref (CO K))) (some false), decide (CO K ≠ CL K),
   PySem.W.readsIn K (CL K) (.type "type"), PySem.W.readsIn K (CO K) (.type "type"), cvT K (CL K) "KIND" "steady", cvT K (CO K) "KIND" "losing"])))
/-- the classes of live logs, as truth values -/
def clsV (K : PySem.W.Frag) (x : Str) (k : Str) : List Bool :=
  [(He.Fa.cls x).ok K, (He.Fa.noat x "_size").ok K, (He.Fa.noat x "_servers").ok K, (He.Fa.noat x "_entries").ok K, (He.Fa.noat x "_marks").ok K, conT K (He.ga K x) "KIND" k, PySem.W.readsIn K (He.ga K x) (.type "type"), cvT K (He.ga K x) "KIND" k]
def vfL (K : PySem.W.Frag) : List Bool := clsV K "LiveLog" "steady" ++ clsV K "LiveLosingLog" "losing"
/-- an own exception class with its own __init__: its object, its fields -/
def oexB (K : PySem.W.Frag) (C : Addr) : Bool := match K.lookup C with
  | none => false
  | some o => (match o.cls, o.data, o.slots.toList with
    | .type t, .cls k, [_, _, _, _, some (.builtin n), _] => decide (t = "type") && (decide (n = "ValueError.__new__") && (!k.hasDel && (k.hasDict && (match k.mro with
      | .ref D :: m => decide (D = C) && PySem.HandSPX.refsVE m
      | _ => false))))
    | _, _, _ => false)
def npL (K : PySem.W.Frag) (x f : Str) : List Bool :=
  [oexB K (He.ga K x), L2.xfB K (He.ga K x), He.eqO (PySem.W.findIn K (.ref (He.ga K x)) "__setattr__") (some (some (.builtin "object.__setattr__"))), (He.Fa.noat x f).ok K, PySem.W.keepIn K (.ref (He.ga K x)),
   decide (PySem.W.typeIn K (.ref (He.ga K x)) = some (.type "type")), (He.Fa.meth x "__init__").ok K, (He.Fa.exm x x true).ok K]
theorem eqB_ok {a b : Option Bool} (h : eqB a b = true) : a = b := of_decide_eq_true h
theorem two_cases {P : Bool → Prop} (h0 : P false) (h1 : P true) : ∀ b, P b := fun b => by
  cases b
  · exact h0
  · exact h1
theorem lf_of {K : PySem.W.Frag} (h : (lfL K).all id = true) : LF K where
  cl := two_cases (He.cls_ok (all_at h 0)) (He.cls_ok (all_at h 7))
  nS := two_cases (He.noat_ok (all_at h 1)) (He.noat_ok (all_at h 8))
  nV := two_cases (He.noat_ok (all_at h 2)) (He.noat_ok (all_at h 9))
  nE := two_cases (He.noat_ok (all_at h 3)) (He.noat_ok (all_at h 10))
  ca := two_cases (He.eqO_ok (all_at h 4)) (He.eqO_ok (all_at h 11))
  cm := two_cases (eqB_ok (all_at h 5)) (eqB_ok (all_at h 12))
  con := two_cases (conT_ok (all_at h 6) (by decide +kernel)) (conT_ok (all_at h 13) (by decide +kernel))
  kB := two_cases ⟨eqB_ok (all_at h 14), eqB_ok (all_at h 15), eqB_ok (all_at h 16), eqB_ok (all_at h 17), eqB_ok (all_at h 18)⟩ ⟨eqB_ok (all_at h 33), eqB_ok (all_at h 34), eqB_ok (all_at h 35), eqB_ok (all_at h 36), eqB_ok (all_at h 37)⟩
  kT := two_cases ⟨eqB_ok (all_at h 19), eqB_ok (all_at h 20), eqB_ok (all_at h 21), eqB_ok (all_at h 22), eqB_ok (all_at h 23), eqB_ok (all_at h 24), eqB_ok (all_at h 25)⟩
    ⟨eqB_ok (all_at h 38), eqB_ok (all_at h 39), eqB_ok (all_at h 40), eqB_ok (all_at h 41), eqB_ok (all_at h 42), eqB_ok (all_at h 43), eqB_ok (all_at h 44)⟩
  sT := two_cases ⟨eqB_ok (all_at h 26), eqB_ok (all_at h 27), eqB_ok (all_at h 28), eqB_ok (all_at h 29), eqB_ok (all_at h 30), eqB_ok (all_at h 31), eqB_ok (all_at h 32)⟩
    ⟨eqB_ok (all_at h 45), eqB_ok (all_at h 46), eqB_ok (all_at h 47), eqB_ok (all_at h 48), eqB_ok (all_at h 49), eqB_ok (all_at h 50), eqB_ok (all_at h 51)⟩
  cn := He.eqO_ok (all_at h 52)
  ct := eqB_ok (all_at h 53)
  k10 := eqB_ok (all_at h 54)
  k01 := eqB_ok (all_at h 55)
  s10 := eqB_ok (all_at h 56)
  s01 := eqB_ok (all_at h 57)
  ne := of_decide_eq_true (all_at h 58)
  rd := two_cases (cread_at (all_at h 59)) (cread_at (all_at h 60))
  cv := two_cases (cvT_ok (all_at h 61)) (cvT_ok (all_at h 62))
theorem met2_of {K : PySem.W.Frag} {m : Str} (F : LF K) (h0 : Meth K (CL K) m (He.ma K (CL K) m)) (h1 : Meth K (CO K) m (He.ma K (CO K) m)) (e : He.ma K (CO K) m = He.ma K (CL K) m) : Met2 K (C2 K) m (He.ma K (CL K) m) :=
  ⟨F.cl, two_cases h0 (e ▸ h1)⟩
theorem prp2_of {K : PySem.W.Frag} {m : Str} (F : LF K) (h0 : PropOf K (CL K) m (He.ma K (CL K) m) (NbH.getterOf K "Log" m)) (h1 : PropOf K (CO K) m (He.ma K (CO K) m) (NbH.getterOf K "LosingLog" m))
    (e : NbH.getterOf K "LosingLog" m = NbH.getterOf K "Log" m) : Prp2 K (C2 K) m (NbH.getterOf K "Log" m) :=
  ⟨F.cl, two_cases ⟨_, h0⟩ ⟨_, e ▸ h1⟩⟩
theorem two_of {K : PySem.W.Frag} (F : LF K) (M : Met2 K (C2 K) "__eq__" (He.ma K (CL K) "__eq__")) (h0 : PySem.W.findIn K (.ref (CL K)) "__ne__" = some (some (.builtin "object.__ne__"))) (h1 : PySem.W.findIn K (.ref (CO K)) "__ne__" = some (some (.builtin "object.__ne__"))) :
    TwoOk K (C2 K) (He.ma K (CL K) "__eq__") := ⟨F.s10, F.ne, fun c => (M.me c).at_, (M.me false).fn, two_cases h0 h1, F.cm⟩

/-! ### what the package's defs promise -/
def natV : V → Bool
  | .int i => decide (0 ≤ i)
  | _ => false
def srvV (ns : List Str) : V → Bool
  | .str z => decide (z ∈ ns)
  | _ => false
def sp_is_integer (K : PySem.W.Frag) : Sp := fun vs H Q _ => ∃ x d, vs = [x] ∧ Knd K H x d ∧ Q (.bl (d == .int)) H
def sp_is_natural (K : PySem.W.Frag) : Sp := fun vs H Q _ => ∃ x d, vs = [x] ∧ Knd K H x d ∧ Q (.bl (natV x)) H
def sp_is_name (_ : PySem.W.Frag) : Sp := fun vs H Q _ => ∃ z : Str, vs = [.str z] ∧ z.length ≤ sizeLine ∧ Q (.bl (nameOk z)) H
def sp_is_server (K : PySem.W.Frag) : Sp := fun vs H Q _ => ∃ (c : Addr) (ns : List Str) (x : V) (d : Kd), vs = [.ref c, x] ∧ CrewAt H c ns ∧ Knd K H x d ∧ Q (.bl (srvV ns x)) H
/-- no tuple of a text and a whole number -/
def NotEn (K : PySem.W.Frag) (H : Hp) (x : V) : Prop := ∃ d, Knd K H x d ∧ (d ≠ .tup ∨ ∃ t xs, x = .ref t ∧ H t = some (.tup xs) ∧ (xs.length ≠ 2 ∨ ∃ v1 v2 d1 d2, xs = [v1, v2] ∧ Knd K H v1 d1 ∧ Knd K H v2 d2 ∧ (d1 ≠ .str ∨ d2 ≠ .int)))
def sp_is_entry (K : PySem.W.Frag) : Sp := fun vs H Q _ => ∃ (c : Addr) (ns : List Str) (x : V), vs = [.ref c, x] ∧ CrewAt H c ns ∧ ((NotEn K H x ∧ Q (.bl false) H) ∨ ∃ (t : Addr) (e : En), x = .ref t ∧ H t = some (.tup [.str e.1, .int e.2]) ∧ Q (.bl (enOk ns e)) H)
def sizeV : V → Bool
  | .int i => decide (1 ≤ i) && decide (i ≤ 10 ^ 30)
  | _ => false
def sp_is_size (K : PySem.W.Frag) : Sp := fun vs H Q _ => ∃ x d, vs = [x] ∧ Knd K H x d ∧ Q (.bl (sizeV x)) H
def sp_are_servers (_ : PySem.W.Frag) : Sp := fun vs H Q _ => ∃ (c : Addr) (ns : List Str), vs = [.ref c] ∧ CrewAt H c ns ∧ Crew ns ∧ ∀ H', Same H H' → Q (.bl true) H'
def sp_check_size (_ : PySem.W.Frag) : Sp := fun vs H Q _ => ∃ z, vs = [.int z] ∧ SizeOk z ∧ Q .non H
def sp_check_servers (_ : PySem.W.Frag) : Sp := fun vs H Q _ => ∃ (c : Addr) (ns : List Str), vs = [.ref c] ∧ CrewAt H c ns ∧ Crew ns ∧ ∀ H', Same H H' → Q .non H'
def sp_check_entries (_ : PySem.W.Frag) : Sp := fun vs H Q _ => ∃ (c s : Addr) (ns : List Str) (es : List En), vs = [.ref c, .ref s] ∧ CrewAt H c ns ∧ EntsAt H s es ∧ EnsOk ns es ∧ ∀ H', Same H H' → Q .non H'
def sp_check_server (_ : PySem.W.Frag) : Sp := fun vs H Q _ => ∃ (c : Addr) (ns : List Str) (x : Str), vs = [.ref c, .str x] ∧ CrewAt H c ns ∧ x ∈ ns ∧ Q .non H
def sp_check_number (_ : PySem.W.Frag) : Sp := fun vs H Q _ => ∃ i : Int, vs = [.int i] ∧ 0 ≤ i ∧ Q .non H
def sp_check_count (_ : PySem.W.Frag) : Sp := fun vs H Q _ => ∃ i m : Int, vs = [.int i, .int m] ∧ 0 ≤ i ∧ i ≤ m ∧ Q .non H
/-- Log's and LosingLog's making -/
def sp_Log_init (K : PySem.W.Frag) : Sp := fun vs H Q _ => ∃ (p dx : Addr) (b : Bool) (z : Int) (c s : Addr) (ns : List Str) (es : List En), vs = [.ref p, .int z, .ref c, .ref s] ∧ H p = some (.ins (C2 K b) dx []) ∧
  WF z ns es ∧ CrewAt H c ns ∧ EntsAt H s es ∧ ∀ H' ls le, (∀ a o, a ≠ p → H a = some o → H' a = some o) → LogX K H' p b z ns es ls le → H ls = none → H le = none → Q .non H'
def sp_Log_size (K : PySem.W.Frag) : Sp := fun vs H Q _ => ∃ p b z ns es, vs = [.ref p] ∧ LogAt K H p b z ns es ∧ Q (.int z) H
def sp_Log_servers (K : PySem.W.Frag) : Sp := fun vs H Q _ => ∃ p b z ns es, vs = [.ref p] ∧ LogAt K H p b z ns es ∧ ∀ a H', H a = none → Same H H' → CrewAt H' a ns → Q (.ref a) H'
def sp_Log_entries (K : PySem.W.Frag) : Sp := fun vs H Q _ => ∃ p b z ns es, vs = [.ref p] ∧ LogAt K H p b z ns es ∧ ∀ a H', H a = none → Same H H' → EntsAt H' a es → Q (.ref a) H'
def sp_Log_len (K : PySem.W.Frag) : Sp := fun vs H Q _ => ∃ p b z ns es, vs = [.ref p] ∧ LogAt K H p b z ns es ∧ Q (.int (es.length : Int)) H
/-- alike: of one kind, size and servers -/
def sp_Log_is_alike (K : PySem.W.Frag) : Sp := fun vs H Q _ => ∃ p b z ns es y d, vs = [.ref p, y] ∧ LogAt K H p b z ns es ∧ Knd K H y d ∧
  ((d ≠ .log true ∧ d ≠ .log false ∧ Q (.bl false) H) ∨ ∃ p' b' z' ns' es', y = .ref p' ∧ LogAt K H p' b' z' ns' es' ∧ Q (.bl (decide (b = b' ∧ z = z' ∧ ns = ns'))) H)
def sp_Log_eq (K : PySem.W.Frag) : Sp := fun vs H Q _ => ∃ p b z ns es y d, vs = [.ref p, y] ∧ LogAt K H p b z ns es ∧ Knd K H y d ∧
  ((d ≠ .log true ∧ d ≠ .log false ∧ Q (.bl false) H) ∨ ∃ p' b' z' ns' es', y = .ref p' ∧ LogAt K H p' b' z' ns' es' ∧ Q (.bl (decide (b = b' ∧ z = z' ∧ ns = ns' ∧ es = es'))) H)
/-- a new log: at a new place, all else stands -/
def NewLog (K : PySem.W.Frag) (H : Hp) (Q : VK) (b : Bool) (z : Int) (ns : List Str) (es : List En) : Prop := ∀ p H', H p = none → Same H H' → LogAt K H' p b z ns es → Q (.ref p) H'
def NewLogX (K : PySem.W.Frag) (H : Hp) (Q : VK) (b : Bool) (z : Int) (ns : List Str) (es : List En) : Prop := ∀ p H' ls le, H p = none → Same H H' → LogX K H' p b z ns es ls le → H ls = none → H le = none → Q (.ref p) H'
theorem NewLog.x {K : PySem.W.Frag} {H : Hp} {Q : VK} {b : Bool} {z : Int} {ns : List Str} {es : List En} (h : NewLog K H Q b z ns es) : NewLogX K H Q b z ns es := fun p H' _ _ hp e hl _ _ => h p H' hp e hl.log
def sp_new_log (K : PySem.W.Frag) : Sp := fun vs H Q _ => ∃ (b : Bool) (z : Int) (c s : Addr) (ns : List Str) (es : List En), vs = [.str (kindS b), .int z, .ref c, .ref s] ∧ WF z ns es ∧ CrewAt H c ns ∧ EntsAt H s es ∧ NewLog K H Q b z ns es
def sp_Log_front (K : PySem.W.Frag) : Sp := fun vs H Q _ => ∃ p b z ns es, ∃ n : Nat, vs = [.ref p, .int (n : Int)] ∧ LogAt K H p b z ns es ∧ n ≤ es.length ∧ NewLog K H Q b z ns (es.take n)
def sp_Log_with_entry (K : PySem.W.Frag) : Sp := fun vs H Q _ => ∃ p b z ns es, ∃ e : En, vs = [.ref p, .str e.1, .int e.2] ∧ LogAt K H p b z ns es ∧ EnsOk ns (es ++ [e]) ∧ NewLog K H Q b z ns (es ++ [e])
/-! ### what the law's common helpers promise -/
/-- the law's names -/
def N12 : List Str := ["ann", "bob", "a", "b", "cy", "zz", "abcdefgh", "ab", "x", "yvonne", "q", "annb"]
def BigP : Int := 2305843009213693951
def sp_law_feed (K : PySem.W.Frag) : Sp := fun vs H Q _ => ∃ (a : Addr) (ns : List Int) (k : Int), vs = [.ref a, .int k] ∧ SqL K H a (ns.map V.int) ∧ ns.length ≤ 63 ∧ 0 ≤ k ∧ ∀ fa H', H fa = none → Same H H' → Feed H' fa → Q (.ref fa) H'
def sp_law_pick (_ : PySem.W.Frag) : Sp := fun vs H Q _ => ∃ (fa : Addr) (n : Int), vs = [.ref fa, .int n] ∧ Feed H fa ∧ 0 < n ∧ n ≤ 10 ^ 200 ∧ ∀ (r : Int) H', 0 ≤ r → r < n → Stp fa H H' → Q (.int r) H'
def sp_law_crew (_ : PySem.W.Frag) : Sp := fun vs H Q _ => ∃ (fa : Addr) (m : Int), vs = [.ref fa, .int m] ∧ Feed H fa ∧ 0 < m ∧ m ≤ 12 ∧ ∀ c ns H', H c = none → Stp fa H H' → CrewAt H' c ns → Crew ns → ns.length ≤ m → (∀ x ∈ ns, x ∈ N12) → Q (.ref c) H'
def sp_law_entries (_ : PySem.W.Frag) : Sp := fun vs H Q _ => ∃ (fa c : Addr) (ns : List Str) (m lim : Int), vs = [.ref fa, .ref c, .int m, .int lim] ∧ Feed H fa ∧ CrewAt H c ns ∧ Crew ns ∧ 0 ≤ m ∧ m ≤ 200 ∧ 0 < lim ∧ lim ≤ 10 ^ 200 ∧
  ∀ s es H', H s = none → Stp fa H H' → EntsAt H' s es → (es.length : Int) ≤ m → (∀ e ∈ es, e.1 ∈ ns ∧ 0 ≤ e.2 ∧ e.2 < lim) → Q (.ref s) H'
def sp_law_made (K : PySem.W.Frag) : Sp := fun vs H Q _ => ∃ (b : Bool) (z : Int) (c s : Addr) (ns : List Str) (es : List En), vs = [.str (kindS b), .int z, .ref c, .ref s] ∧ WF z ns es ∧ CrewAt H c ns ∧ EntsAt H s es ∧ NewLogX K H Q b z ns es
/-! ### data of names and entries -/
theorem strOk_of {z : Str} (h : nameOk z = true) : PyData.strOk z = true := by
  unfold nameOk at h
  simp only [Bool.and_eq_true] at h
  have h1 : (z.cps.all fun c => decide (c < 128)) = true := h.2.1
  show (z.cps.all fun c => decide (c < 0x110000)) = true
  rw [Array.all_eq_true] at h1 ⊢
  intro i hi
  have := of_decide_eq_true (h1 i hi)
  exact decide_eq_true (by omega)
theorem lay_strs : ∀ {ns : List Str}, (∀ z ∈ ns, nameOk z = true) → PyData.canLayAll0 (ns.map PyData.str) = true
  | [], _ => rfl
  | n :: ns, h => by
    show (PyData.strOk n && PyData.canLayAll0 (ns.map PyData.str)) = true
    rw [strOk_of (h n (List.mem_cons_self ..)), lay_strs fun z hz => h z (List.mem_cons_of_mem _ hz)]
    rfl
theorem lay_ens {ns : List Str} (hn : ∀ z ∈ ns, nameOk z = true) : ∀ {es : List En}, (∀ e ∈ es, enOk ns e = true) → PyData.canLayAll0 (es.map enD) = true
  | [], _ => rfl
  | e :: es, h => by
    have h1 := h e (List.mem_cons_self ..)
    unfold enOk at h1
    simp only [Bool.and_eq_true, decide_eq_true_eq] at h1
    show ((PyData.strOk e.1 && (true && true)) && PyData.canLayAll0 (es.map enD)) = true
    rw [strOk_of (hn _ h1.1), lay_ens hn fun z hz => h z (List.mem_cons_of_mem _ hz)]
    rfl
theorem dep_strs : ∀ ns : List Str, PyData.depthAll (ns.map PyData.str) = 0
  | [] => rfl
  | n :: ns => by
    show max 0 (PyData.depthAll (ns.map PyData.str)) = 0
    rw [dep_strs ns]
    rfl
theorem dep_ens : ∀ es : List En, PyData.depthAll (es.map enD) ≤ 1
  | [] => Nat.zero_le _
  | e :: es => by
    show max (max 0 (max 0 0) + 1) (PyData.depthAll (es.map enD)) ≤ 1
    have := dep_ens es
    simp only [Nat.max_self, Nat.zero_add]
    omega
theorem shaped_crew {ns : List Str} (h : Crew ns) : SeqAt.shaped (.list (ns.map PyData.str)) = true := by
  unfold SeqAt.shaped
  rw [Bool.and_eq_true]
  refine ⟨lay_strs h.ok, decide_eq_true ?_⟩
  show PyData.depthAll (ns.map PyData.str) + 1 ≤ 64
  rw [dep_strs]
  decide
theorem shaped_ens {ns : List Str} {es : List En} (h : Crew ns) (g : EnsOk ns es) : SeqAt.shaped (.list (es.map enD)) = true := by
  unfold SeqAt.shaped
  rw [Bool.and_eq_true]
  refine ⟨lay_ens h.ok g.ok, decide_eq_true ?_⟩
  show PyData.depthAll (es.map enD) + 1 ≤ 64
  have := dep_ens es
  omega
theorem eqv_strs : ∀ ns ms : List Str, PyData.eqvAll (ns.map PyData.str) (ms.map PyData.str) = decide (ns = ms)
  | [], [] => by simp [PyData.eqvAll]
  | [], _ :: _ => by simp [PyData.eqvAll]
  | _ :: _, [] => by simp [PyData.eqvAll]
  | n :: ns, m :: ms => by
    show ((n == m) && PyData.eqvAll (ns.map PyData.str) (ms.map PyData.str)) = _
    rw [eqv_strs ns ms, Bool.eq_iff_iff]
    simp
theorem eqv_ens : ∀ es fs : List En, PyData.eqvAll (es.map enD) (fs.map enD) = decide (es = fs)
  | [], [] => by simp [PyData.eqvAll]
  | [], _ :: _ => by simp [PyData.eqvAll]
  | _ :: _, [] => by simp [PyData.eqvAll]
  | (a, i) :: es, (b, j) :: fs => by
    show (((a == b) && ((i == j) && true)) && PyData.eqvAll (es.map enD) (fs.map enD)) = _
    rw [eqv_ens es fs, Bool.eq_iff_iff]
    simp
theorem kindS_inj : ∀ {a b : Bool}, kindS a = kindS b → a = b
  | true, true, _ => rfl
  | false, false, _ => rfl
  | true, false, h => absurd h (by decide +kernel)
  | false, true, h => absurd h (by decide +kernel)
/-- a log's kind of value -/
theorem LogAt.knd {K : PySem.W.Frag} {H : Hp} {p : Addr} {b : Bool} {z : Int} {ns : List Str} {es : List En} (h : LogAt K H p b z ns es) : Knd K H (.ref p) (.log b) := by
  obtain ⟨dx, ls, le, h1, _⟩ := h
  exact .log h1
theorem C2_inj {K : PySem.W.Frag} (F : LF K) : ∀ {a b : Bool}, C2 K a = C2 K b → a = b
  | true, true, _ => rfl
  | false, false, _ => rfl
  | true, false, h => absurd h F.ne
  | false, true, h => absurd h.symm F.ne
/-- the kind of a log's address is the log's -/
theorem LogAt.kd {K : PySem.W.Frag} (F : LF K) {H : Hp} {p : Addr} {b : Bool} {z : Int} {ns : List Str} {es : List En} {d : Kd} (h : LogAt K H p b z ns es) (k : Knd K H (.ref p) d) : d = .log b := by
  obtain ⟨dx, ls, le, h1, _⟩ := h
  cases k with
  | lst e => rw [h1] at e; cases e
  | tup e => rw [h1] at e; cases e
  | dct e => rw [h1] at e; cases e
  | log e =>
    rw [h1] at e
    injection e with e
    injection e with e1 e2 e3
    rw [C2_inj F e1]
end NbS

set_option Elab.async false
set_option linter.all false
set_option maxRecDepth 100000
set_option maxHeartbeats 4000000
namespace LawP
open PySem PySem.Spec PyProof.Rows L2 Nb NbR NbB NbE NbT NbU NbS
def topS (i : Nat) : Stmt := PySem.Challenge.pw_numberbooks_k81_logs_written_and_read.main.body.getD i (.Pass ⟨0, 0, 0, 0⟩)
abbrev s_InvalidText_init : Stmt := inClass (topS 7) 0
theorem sc_InvalidText_init : FnScope ["self", "word"] ["self", "word"] (defScope s_InvalidText_init) := ⟨rfl, rfl, rfl, by decide +kernel, rfl, by decide +kernel, by decide +kernel⟩
abbrev s_is_integer : Stmt := topS 14
theorem sc_is_integer : FnScope ["thing"] ["thing"] (defScope s_is_integer) := ⟨rfl, rfl, rfl, by decide +kernel, rfl, by decide +kernel, by decide +kernel⟩
abbrev s_is_natural : Stmt := topS 15
theorem sc_is_natural : FnScope ["thing"] ["thing"] (defScope s_is_natural) := ⟨rfl, rfl, rfl, by decide +kernel, rfl, by decide +kernel, by decide +kernel⟩
abbrev s_is_size : Stmt := topS 16
theorem sc_is_size : FnScope ["thing"] ["thing"] (defScope s_is_size) := ⟨rfl, rfl, rfl, by decide +kernel, rfl, by decide +kernel, by decide +kernel⟩
abbrev s_is_name : Stmt := topS 17
theorem sc_is_name : FnScope ["thing"] ["thing"] (defScope s_is_name) := ⟨rfl, rfl, rfl, by decide +kernel, rfl, by decide +kernel, by decide +kernel⟩
abbrev s_are_servers : Stmt := topS 18
theorem sc_are_servers : FnScope ["thing", "name"] ["thing"] (defScope s_are_servers) := ⟨rfl, rfl, rfl, by decide +kernel, rfl, by decide +kernel, by decide +kernel⟩
abbrev s_is_server : Stmt := topS 19
theorem sc_is_server : FnScope ["servers", "thing"] ["servers", "thing"] (defScope s_is_server) := ⟨rfl, rfl, rfl, by decide +kernel, rfl, by decide +kernel, by decide +kernel⟩
abbrev s_is_entry : Stmt := topS 20
theorem sc_is_entry : FnScope ["servers", "thing", "server", "number"] ["servers", "thing"] (defScope s_is_entry) := ⟨rfl, rfl, rfl, by decide +kernel, rfl, by decide +kernel, by decide +kernel⟩
abbrev s_check_size : Stmt := topS 21
theorem sc_check_size : FnScope ["size"] ["size"] (defScope s_check_size) := ⟨rfl, rfl, rfl, by decide +kernel, rfl, by decide +kernel, by decide +kernel⟩
abbrev s_check_servers : Stmt := topS 22
theorem sc_check_servers : FnScope ["servers"] ["servers"] (defScope s_check_servers) := ⟨rfl, rfl, rfl, by decide +kernel, rfl, by decide +kernel, by decide +kernel⟩
abbrev s_check_entries : Stmt := topS 23
theorem sc_check_entries : FnScope ["servers", "entries", "entry"] ["servers", "entries"] (defScope s_check_entries) := ⟨rfl, rfl, rfl, by decide +kernel, rfl, by decide +kernel, by decide +kernel⟩
abbrev s_Log_init : Stmt := inClass (topS 25) 1
theorem sc_Log_init : FnScope ["self", "size", "servers", "entries"] ["self", "size", "servers", "entries"] (defScope s_Log_init) := ⟨rfl, rfl, rfl, by decide +kernel, rfl, by decide +kernel, by decide +kernel⟩
abbrev s_Log_size : Stmt := inClass (topS 25) 2
theorem sc_Log_size : FnScope ["self"] ["self"] (defScope s_Log_size) := ⟨rfl, rfl, rfl, by decide +kernel, rfl, by decide +kernel, by decide +kernel⟩
abbrev s_Log_servers : Stmt := inClass (topS 25) 3
theorem sc_Log_servers : FnScope ["self"] ["self"] (defScope s_Log_servers) := ⟨rfl, rfl, rfl, by decide +kernel, rfl, by decide +kernel, by decide +kernel⟩
abbrev s_Log_entries : Stmt := inClass (topS 25) 4
theorem sc_Log_entries : FnScope ["self"] ["self"] (defScope s_Log_entries) := ⟨rfl, rfl, rfl, by decide +kernel, rfl, by decide +kernel, by decide +kernel⟩
abbrev s_Log_len : Stmt := inClass (topS 25) 5
theorem sc_Log_len : FnScope ["self"] ["self"] (defScope s_Log_len) := ⟨rfl, rfl, rfl, by decide +kernel, rfl, by decide +kernel, by decide +kernel⟩
abbrev s_Log_add : Stmt := inClass (topS 25) 6
theorem sc_Log_add : FnScope ["self", "other", "entries"] ["self", "other"] (defScope s_Log_add) := ⟨rfl, rfl, rfl, by decide +kernel, rfl, by decide +kernel, by decide +kernel⟩
abbrev s_Log_eq : Stmt := inClass (topS 25) 7
theorem sc_Log_eq : FnScope ["self", "other"] ["self", "other"] (defScope s_Log_eq) := ⟨rfl, rfl, rfl, by decide +kernel, rfl, by decide +kernel, by decide +kernel⟩
abbrev s_Log_contains : Stmt := inClass (topS 25) 8
theorem sc_Log_contains : FnScope ["self", "thing"] ["self", "thing"] (defScope s_Log_contains) := ⟨rfl, rfl, rfl, by decide +kernel, rfl, by decide +kernel, by decide +kernel⟩
abbrev s_Log_is_alike : Stmt := inClass (topS 25) 12
theorem sc_Log_is_alike : FnScope ["self", "other"] ["self", "other"] (defScope s_Log_is_alike) := ⟨rfl, rfl, rfl, by decide +kernel, rfl, by decide +kernel, by decide +kernel⟩
abbrev s_new_log : Stmt := topS 27
theorem sc_new_log : FnScope ["kind", "size", "servers", "entries"] ["kind", "size", "servers", "entries"] (defScope s_new_log) := ⟨rfl, rfl, rfl, by decide +kernel, rfl, by decide +kernel, by decide +kernel⟩
abbrev s_write_log : Stmt := topS 30
theorem sc_write_log : FnScope ["log", "words", "server", "number"] ["log"] (defScope s_write_log) := ⟨rfl, rfl, rfl, by decide +kernel, rfl, by decide +kernel, by decide +kernel⟩
abbrev s_read_log : Stmt := topS 31
theorem sc_read_log : FnScope ["text", "words", "entries", "word"] ["text"] (defScope s_read_log) := ⟨rfl, rfl, rfl, by decide +kernel, rfl, by decide +kernel, by decide +kernel⟩
abbrev s_check_words : Stmt := topS 32
theorem sc_check_words : FnScope ["words", "can_stand", "place"] ["words", "can_stand"] (defScope s_check_words) := ⟨rfl, rfl, rfl, by decide +kernel, rfl, by decide +kernel, by decide +kernel⟩
abbrev s_stands_in_log : Stmt := topS 33
theorem sc_stands_in_log : FnScope ["words", "place", "word"] ["words", "place"] (defScope s_stands_in_log) := ⟨rfl, rfl, rfl, by decide +kernel, rfl, by decide +kernel, by decide +kernel⟩
abbrev s_is_number_text : Stmt := topS 34
theorem sc_is_number_text : FnScope ["word"] ["word"] (defScope s_is_number_text) := ⟨rfl, rfl, rfl, by decide +kernel, rfl, by decide +kernel, by decide +kernel⟩
abbrev s_is_entry_text : Stmt := topS 35
theorem sc_is_entry_text : FnScope ["servers", "word", "server", "_", "number"] ["servers", "word"] (defScope s_is_entry_text) := ⟨rfl, rfl, rfl, by decide +kernel, rfl, by decide +kernel, by decide +kernel⟩
abbrev s_read_entry : Stmt := topS 36
theorem sc_read_entry : FnScope ["word", "server", "_", "number"] ["word"] (defScope s_read_entry) := ⟨rfl, rfl, rfl, by decide +kernel, rfl, by decide +kernel, by decide +kernel⟩
abbrev s_law_urn : Stmt := topS 38
theorem sc_law_urn : FnScope ["script", "swirl", "cell"] ["script"] (defScope s_law_urn) := ⟨rfl, rfl, rfl, by decide +kernel, rfl, by decide +kernel, by decide +kernel⟩
abbrev s_law_lot : Stmt := topS 39
theorem sc_law_lot : FnScope ["urn", "many", "found", "swirl"] ["urn", "many"] (defScope s_law_lot) := ⟨rfl, rfl, rfl, by decide +kernel, rfl, by decide +kernel, by decide +kernel⟩
abbrev s_law_names : Stmt := topS 40
theorem sc_law_names : FnScope ["urn", "most", "found", "turn", "many", "letters", "spot"] ["urn", "most"] (defScope s_law_names) := ⟨rfl, rfl, rfl, by decide +kernel, rfl, by decide +kernel, by decide +kernel⟩
abbrev s_law_log : Stmt := topS 41
theorem sc_law_log : FnScope ["wide", "names", "rows", "is_losing"] ["wide", "names", "rows", "is_losing"] (defScope s_law_log) := ⟨rfl, rfl, rfl, by decide +kernel, rfl, by decide +kernel, by decide +kernel⟩
abbrev s_law_rows : Stmt := topS 42
theorem sc_law_rows : FnScope ["urn", "names", "many", "found", "turn", "number_here"] ["urn", "names", "many"] (defScope s_law_rows) := ⟨rfl, rfl, rfl, by decide +kernel, rfl, by decide +kernel, by decide +kernel⟩
abbrev s_law_text : Stmt := topS 43
theorem sc_law_text : FnScope ["wide", "names", "rows", "is_losing", "words", "name", "value"] ["wide", "names", "rows", "is_losing"] (defScope s_law_text) := ⟨rfl, rfl, rfl, by decide +kernel, rfl, by decide +kernel, by decide +kernel⟩
abbrev s_law_right : Stmt := topS 44
theorem sc_law_right : FnScope ["wide", "names", "rows", "is_losing", "made", "due", "again", "back", "row"] ["wide", "names", "rows", "is_losing"] (defScope s_law_right) := ⟨rfl, rfl, rfl, by decide +kernel, rfl, by decide +kernel, by decide +kernel⟩
abbrev s_law : Stmt := topS 45
theorem sc_law : FnScope ["script", "urn", "lap", "wide", "names", "rows", "is_losing", "made"] ["script"] (defScope s_law) := ⟨rfl, rfl, rfl, by decide +kernel, rfl, by decide +kernel, by decide +kernel⟩
def d_InvalidText_init : NbH.DefA := ⟨fun K => He.ma K (He.ga K "InvalidText") "__init__", "__init__", "InvalidText.__init__", defArgs s_InvalidText_init, defBody s_InvalidText_init, defScope s_InvalidText_init⟩
def d_is_integer : NbH.DefA := ⟨fun K => He.ga K "is_integer", "is_integer", "is_integer", defArgs s_is_integer, defBody s_is_integer, defScope s_is_integer⟩
def d_is_natural : NbH.DefA := ⟨fun K => He.ga K "is_natural", "is_natural", "is_natural", defArgs s_is_natural, defBody s_is_natural, defScope s_is_natural⟩
def d_is_size : NbH.DefA := ⟨fun K => He.ga K "is_size", "is_size", "is_size", defArgs s_is_size, defBody s_is_size, defScope s_is_size⟩
def d_is_name : NbH.DefA := ⟨fun K => He.ga K "is_name", "is_name", "is_name", defArgs s_is_name, defBody s_is_name, defScope s_is_name⟩
def d_are_servers : NbH.DefA := ⟨fun K => He.ga K "are_servers", "are_servers", "are_servers", defArgs s_are_servers, defBody s_are_servers, defScope s_are_servers⟩
def d_is_server : NbH.DefA := ⟨fun K => He.ga K "is_server", "is_server", "is_server", defArgs s_is_server, defBody s_is_server, defScope s_is_server⟩
def d_is_entry : NbH.DefA := ⟨fun K => He.ga K "is_entry", "is_entry", "is_entry", defArgs s_is_entry, defBody s_is_entry, defScope s_is_entry⟩
def d_check_size : NbH.DefA := ⟨fun K => He.ga K "check_size", "check_size", "check_size", defArgs s_check_size, defBody s_check_size, defScope s_check_size⟩
def d_check_servers : NbH.DefA := ⟨fun K => He.ga K "check_servers", "check_servers", "check_servers", defArgs s_check_servers, defBody s_check_servers, defScope s_check_servers⟩
def d_check_entries : NbH.DefA := ⟨fun K => He.ga K "check_entries", "check_entries", "check_entries", defArgs s_check_entries, defBody s_check_entries, defScope s_check_entries⟩
def d_Log_init : NbH.DefA := ⟨fun K => He.ma K (He.ga K "Log") "__init__", "__init__", "Log.__init__", defArgs s_Log_init, defBody s_Log_init, defScope s_Log_init⟩
def d_Log_size : NbH.DefA := ⟨fun K => NbH.getterOf K "Log" "size", "size", "Log.size", defArgs s_Log_size, defBody s_Log_size, defScope s_Log_size⟩
def d_Log_servers : NbH.DefA := ⟨fun K => NbH.getterOf K "Log" "servers", "servers", "Log.servers", defArgs s_Log_servers, defBody s_Log_servers, defScope s_Log_servers⟩
def d_Log_entries : NbH.DefA := ⟨fun K => NbH.getterOf K "Log" "entries", "entries", "Log.entries", defArgs s_Log_entries, defBody s_Log_entries, defScope s_Log_entries⟩
def d_Log_len : NbH.DefA := ⟨fun K => He.ma K (He.ga K "Log") "__len__", "__len__", "Log.__len__", defArgs s_Log_len, defBody s_Log_len, defScope s_Log_len⟩
def d_Log_add : NbH.DefA := ⟨fun K => He.ma K (He.ga K "Log") "__add__", "__add__", "Log.__add__", defArgs s_Log_add, defBody s_Log_add, defScope s_Log_add⟩
def d_Log_eq : NbH.DefA := ⟨fun K => He.ma K (He.ga K "Log") "__eq__", "__eq__", "Log.__eq__", defArgs s_Log_eq, defBody s_Log_eq, defScope s_Log_eq⟩
def d_Log_contains : NbH.DefA := ⟨fun K => He.ma K (He.ga K "Log") "__contains__", "__contains__", "Log.__contains__", defArgs s_Log_contains, defBody s_Log_contains, defScope s_Log_contains⟩
def d_Log_is_alike : NbH.DefA := ⟨fun K => He.ma K (He.ga K "Log") "_is_alike", "_is_alike", "Log._is_alike", defArgs s_Log_is_alike, defBody s_Log_is_alike, defScope s_Log_is_alike⟩
def d_new_log : NbH.DefA := ⟨fun K => He.ga K "new_log", "new_log", "new_log", defArgs s_new_log, defBody s_new_log, defScope s_new_log⟩
def d_write_log : NbH.DefA := ⟨fun K => He.ga K "write_log", "write_log", "write_log", defArgs s_write_log, defBody s_write_log, defScope s_write_log⟩
def d_read_log : NbH.DefA := ⟨fun K => He.ga K "read_log", "read_log", "read_log", defArgs s_read_log, defBody s_read_log, defScope s_read_log⟩
def d_check_words : NbH.DefA := ⟨fun K => He.ga K "check_words", "check_words", "check_words", defArgs s_check_words, defBody s_check_words, defScope s_check_words⟩
def d_stands_in_log : NbH.DefA := ⟨fun K => He.ga K "stands_in_log", "stands_in_log", "stands_in_log", defArgs s_stands_in_log, defBody s_stands_in_log, defScope s_stands_in_log⟩
def d_is_number_text : NbH.DefA := ⟨fun K => He.ga K "is_number_text", "is_number_text", "is_number_text", defArgs s_is_number_text, defBody s_is_number_text, defScope s_is_number_text⟩
def d_is_entry_text : NbH.DefA := ⟨fun K => He.ga K "is_entry_text", "is_entry_text", "is_entry_text", defArgs s_is_entry_text, defBody s_is_entry_text, defScope s_is_entry_text⟩
def d_read_entry : NbH.DefA := ⟨fun K => He.ga K "read_entry", "read_entry", "read_entry", defArgs s_read_entry, defBody s_read_entry, defScope s_read_entry⟩
def d_law_urn : NbH.DefA := ⟨fun K => He.ga K "_law_urn", "_law_urn", "_law_urn", defArgs s_law_urn, defBody s_law_urn, defScope s_law_urn⟩
def d_law_lot : NbH.DefA := ⟨fun K => He.ga K "_law_lot", "_law_lot", "_law_lot", defArgs s_law_lot, defBody s_law_lot, defScope s_law_lot⟩
def d_law_names : NbH.DefA := ⟨fun K => He.ga K "_law_names", "_law_names", "_law_names", defArgs s_law_names, defBody s_law_names, defScope s_law_names⟩
def d_law_log : NbH.DefA := ⟨fun K => He.ga K "_law_log", "_law_log", "_law_log", defArgs s_law_log, defBody s_law_log, defScope s_law_log⟩
def d_law_rows : NbH.DefA := ⟨fun K => He.ga K "_law_rows", "_law_rows", "_law_rows", defArgs s_law_rows, defBody s_law_rows, defScope s_law_rows⟩
def d_law_text : NbH.DefA := ⟨fun K => He.ga K "_law_text", "_law_text", "_law_text", defArgs s_law_text, defBody s_law_text, defScope s_law_text⟩
def d_law_right : NbH.DefA := ⟨fun K => He.ga K "_law_right", "_law_right", "_law_right", defArgs s_law_right, defBody s_law_right, defScope s_law_right⟩
def d_law : NbH.DefA := ⟨fun K => He.ga K "law", "law", "law", defArgs s_law, defBody s_law, defScope s_law⟩
def dfs : List NbH.DefA := [d_InvalidText_init, d_is_integer, d_is_natural, d_is_size, d_is_name, d_are_servers, d_is_server, d_is_entry, d_check_size, d_check_servers, d_check_entries, d_Log_init, d_Log_size, d_Log_servers, d_Log_entries, d_Log_len, d_Log_add, d_Log_eq, d_Log_contains, d_Log_is_alike, d_new_log, d_write_log, d_read_log, d_check_words, d_stands_in_log, d_is_number_text, d_is_entry_text, d_read_entry, d_law_urn, d_law_lot, d_law_names, d_law_log, d_law_rows, d_law_text, d_law_right, d_law]
def fax (K : PySem.W.Frag) : List Bool := [
  (He.Fa.glo "_law_urn").ok K,
  (He.Fa.glo "_law_lot").ok K,
  (He.Fa.glo "_law_names").ok K,
  (He.Fa.glo "_law_rows").ok K,
  (He.Fa.glo "is_integer").ok K,
  (He.Fa.glo "is_size").ok K,
  (He.Fa.glo "check_size").ok K,
  (He.Fa.glo "is_name").ok K,
  (He.Fa.glo "are_servers").ok K,
  (He.Fa.glo "check_servers").ok K,
  (He.Fa.glo "is_server").ok K,
  (He.Fa.glo "is_natural").ok K,
  (He.Fa.glo "is_entry").ok K,
  (He.Fa.glo "check_entries").ok K,
  (He.Fa.glo "_law_log").ok K,
  (He.Fa.glo "_law_text").ok K,
  (He.Fa.glo "write_log").ok K,
  (He.Fa.glo "is_number_text").ok K,
  (He.Fa.glo "is_entry_text").ok K,
  (He.Fa.glo "stands_in_log").ok K,
  (He.Fa.glo "check_words").ok K,
  (He.Fa.glo "read_entry").ok K,
  (He.Fa.glo "new_log").ok K,
  (He.Fa.glo "read_log").ok K,
  (He.Fa.glo "_law_right").ok K,
  (He.Fa.glo "law").ok K,
  (He.Fa.glo "BookError").ok K,
  (He.Fa.glo "InvalidSize").ok K,
  (He.Fa.glo "InvalidServers").ok K,
  (He.Fa.glo "InvalidEntries").ok K,
  (He.Fa.glo "InvalidLog").ok K,
  (He.Fa.glo "InvalidText").ok K,
  (He.Fa.glo "Log").ok K,
  (He.Fa.glo "LosingLog").ok K,
  (He.Fa.free "len").ok K,
  (He.Fa.free "max").ok K,
  (He.Fa.free "min").ok K,
  (He.Fa.free "abs").ok K,
  (He.Fa.free "int").ok K,
  (He.Fa.free "bool").ok K,
  (He.Fa.free "str").ok K,
  (He.Fa.free "list").ok K,
  (He.Fa.free "tuple").ok K,
  (He.Fa.free "dict").ok K,
  (He.Fa.free "isinstance").ok K,
  (He.Fa.free "all").ok K,
  (He.Fa.free "any").ok K,
  (He.Fa.free "repr").ok K,
  (He.Fa.free "range").ok K,
  (He.Fa.free "enumerate").ok K,
  (He.Fa.free "zip").ok K,
  (He.Fa.free "sorted").ok K,
  (He.Fa.free "set").ok K,
  (He.Fa.free "sum").ok K,
  (He.Fa.free "reversed").ok K,
  (He.Fa.int "GREATEST_SIZE" 1000000000000000000000000000000).ok K,
  (He.Fa.int "MOST_SERVERS" 12).ok K,
  (He.Fa.int "MOST_LETTERS" 8).ok K,
  (He.Fa.int "MOST_ENTRIES" 200).ok K,
  (He.Fa.int "MOST_DIGITS" 60).ok K,
  (He.Fa.int "HEAD_WORDS" 3).ok K,
  (He.Fa.exc "InvalidLog").ok K,
  (He.Fa.exm "InvalidLog" "InvalidLog" true).ok K,
  (He.Fa.meth "Log" "__init__").ok K,
  (He.Fa.meth "LosingLog" "__init__").ok K,
  decide (He.ma K (He.ga K "LosingLog") "__init__" = He.ma K (He.ga K "Log") "__init__"),
  (He.Fa.meth "Log" "__len__").ok K,
  (He.Fa.meth "LosingLog" "__len__").ok K,
  decide (He.ma K (He.ga K "LosingLog") "__len__" = He.ma K (He.ga K "Log") "__len__"),
  (He.Fa.meth "Log" "__add__").ok K,
  (He.Fa.meth "LosingLog" "__add__").ok K,
  decide (He.ma K (He.ga K "LosingLog") "__add__" = He.ma K (He.ga K "Log") "__add__"),
  PySem.W.selfFirst K (CL K),
  PySem.W.selfFirst K (CO K),
  (He.Fa.meth "Log" "__eq__").ok K,
  (He.Fa.meth "LosingLog" "__eq__").ok K,
  decide (He.ma K (He.ga K "LosingLog") "__eq__" = He.ma K (He.ga K "Log") "__eq__"),
  (He.Fa.meth "Log" "__contains__").ok K,
  (He.Fa.meth "LosingLog" "__contains__").ok K,
  decide (He.ma K (He.ga K "LosingLog") "__contains__" = He.ma K (He.ga K "Log") "__contains__"),
  (He.Fa.meth "Log" "_is_alike").ok K,
  (He.Fa.meth "LosingLog" "_is_alike").ok K,
  decide (He.ma K (He.ga K "LosingLog") "_is_alike" = He.ma K (He.ga K "Log") "_is_alike"),
  NbH.propB K "Log" "size",
  NbH.propB K "LosingLog" "size",
  decide (NbH.getterOf K "LosingLog" "size" = NbH.getterOf K "Log" "size"),
  NbH.propB K "Log" "servers",
  NbH.propB K "LosingLog" "servers",
  decide (NbH.getterOf K "LosingLog" "servers" = NbH.getterOf K "Log" "servers"),
  NbH.propB K "Log" "entries",
  NbH.propB K "LosingLog" "entries",
  decide (NbH.getterOf K "LosingLog" "entries" = NbH.getterOf K "Log" "entries"),
  (He.Fa.mkr "Log").ok K,
  (He.Fa.mkr "LosingLog").ok K,
  decide (He.ma K (He.ga K "LosingLog") "__init__" = He.ma K (He.ga K "Log") "__init__"),
  He.eqO (PySem.W.findIn K (.ref (He.ga K "Log")) "__ne__") (some (some (.builtin "object.__ne__"))),
  He.eqO (PySem.W.findIn K (.ref (He.ga K "LosingLog")) "__ne__") (some (some (.builtin "object.__ne__")))]
def ex (K : PySem.W.Frag) : Bool := (lfL K).all id && (fax K).all id
def loose0 : List PySem.Str := ["_wall", "BookError", "InvalidSize", "InvalidServers", "InvalidEntries", "InvalidLog", "InvalidText", "GREATEST_SIZE", "MOST_SERVERS", "MOST_LETTERS", "MOST_ENTRIES", "MOST_DIGITS", "is_integer", "is_natural", "is_size", "is_name", "are_servers", "is_server", "is_entry", "check_size", "check_servers", "check_entries", "Log", "LosingLog", "new_log", "HEAD_WORDS", "write_log", "read_log", "check_words", "stands_in_log"]
def loose1 : List PySem.Str := ["is_number_text", "is_entry_text", "read_entry", "_law_urn", "_law_lot", "_law_names", "_law_log", "_law_rows", "_law_text", "_law_right"]
def loose : List PySem.Str := loose0 ++ loose1
abbrev R : PySem.W.OpenRow := PySem.W.OpenLaw.row PySem.Challenge.rw_numberbooks_k81_logs_written_and_read
/-- every object below n, the last made first -/
def seeN (n : Nat) (ex : PySem.W.Frag → Bool) (fs : List NbH.DefA) (g : Addr → Option Obj) : NbH.Alp := NbH.seeA ex fs (He.frG g (List.range n).reverse)
def hookN (n : Nat) (ex : PySem.W.Frag → Bool) (fs : List NbH.DefA) : PySem.W.Hook where
  α := NbH.Alp
  obs := fun s => seeN n ex fs s.heap.get?
  val := fun _ => NbH.dueA fs
  says := fun _ h => ∃ K : PySem.W.Frag, K.In h ∧ NbH.Told ex fs K
  of := fun _ _ q => ⟨_, He.frG_in, q⟩
  keeps := fun _ _ _ ⟨K, a, b⟩ c => ⟨K, PySem.W.Frag.In.keeps a c, b⟩
abbrev hk : PySem.W.Hook := hookN 1500 ex dfs
def ob (s : PySem.W.SharedT) : NbH.Alp := seeN 1500 ex dfs (HandSHeadRun.getT s)
theorem ob_eq (s : PySem.W.SharedT) : ob s = hk.obs s.abs := congrArg (seeN 1500 ex dfs) (funext (HandSHeadRun.getT_eq s))
theorem top_runs (w : World) : HandSHeadRun.RunEq R (PySem.W.view R.prog [45]) hk ob 12000 loose w := by
  intro os
  kernel_rfl
end LawP
set_option Elab.async false
set_option linter.all false
set_option maxRecDepth 100000
set_option maxHeartbeats 4000000
/-! Loops and comprehensions, read as they stand. -/
namespace NbF
open PySem PySem.Spec PyProof.Rows L2 Nb
section
variable {K : PySem.W.Frag} {ta : TA} {te tl : TE} {tt : TT} {g : TG} {tb : TS} {D : Ends} {σ : L2.St} {H : Hp} {Q : VK} {vs : List Nat} {a : Addr} {xs : List V}
/-- what is asked of a loop over J -/
def LoopR (J : L2.It) (g : TG) (tb : TS) (D : Ends) (σ : L2.St) (H : Hp) : Prop := ∃ W : Nat → Nat → L2.St → Hp → Prop, (∃ m, W 0 m σ H) ∧ ∀ i m σ H, W i m σ H →
  (J.stop i H ∧ D.nx σ H) ∨ (J.go i H ∧ ∃ N : L2.St → Hp → Prop, (∀ σ' H', N σ' H' → ∃ m', m' < m ∧ W (i + 1) m' σ' H') ∧ ∀ x H', J.yld i H x H' → g x σ H' fun σ2 H2 => tb { D with nx := N, ct := N, bk := D.nx } σ2 H2)
theorem tFor_eq (wi : TI) : tFor wi g tb D σ H = wi σ H fun J H1 => LoopR J g tb D σ H1 := rfl
theorem loop_rng {n : Nat} (Pv : Nat → L2.St → Hp → Prop) (h0 : Pv 0 σ H) (hs : ∀ (i : Nat) σ' H', i < n → Pv i σ' H' → g (.int (i : Int)) σ' H' fun σ2 H2 => tb { D with nx := Pv (i + 1), ct := Pv (i + 1), bk := D.nx } σ2 H2)
    (hd : ∀ σ' H', Pv n σ' H' → D.nx σ' H') : LoopR (Itr 0 n) g tb D σ H := for_range (lo := 0) (n := n) Pv h0 (fun i σ' H' hi p => by
  have e : (0 : Int) + (i : Int) = (i : Int) := Int.zero_add _
  rw [e]
  exact hs i σ' H' hi p) hd
theorem loop_list (xs : List V) (Pv : Nat → L2.St → Hp → Prop) (h0 : Pv 0 σ H) (hl : ∀ i σ' H', i ≤ xs.length → Pv i σ' H' → SqL K H' a xs)
    (hs : ∀ (i : Nat) x σ' H', xs[i]? = some x → Pv i σ' H' → g x σ' H' fun σ2 H2 => tb { D with nx := Pv (i + 1), ct := Pv (i + 1), bk := D.nx } σ2 H2) (hd : ∀ σ' H', Pv xs.length σ' H' → D.nx σ' H') : LoopR (Itl K a) g tb D σ H :=
  for_list Pv h0 hl hs hd
/-- what is asked of a list comprehension over J, its list at L -/
def CompR (J : L2.It) (g : TG) (tt : TT) (te : TE) (vs : List Nat) (σ : L2.St) (H1 : Hp) (L : Addr) (Q : VK) : Prop := ∃ W : Nat → Nat → Hp → Prop, (∃ m, W 0 m (upd H1 L (.lst []))) ∧ ∀ i m H, W i m H →
  (J.stop i H ∧ Q (.ref L) H) ∨ (J.go i H ∧ ∃ Nx : Hp → Prop, (∀ H', Nx H' → ∃ m', m' < m ∧ W (i + 1) m' H') ∧ ∀ x H', J.yld i H x H' → g x (wipe σ vs) H' fun σ2 H2 => wipe σ2 vs = wipe σ vs ∧ tt σ2 H2 fun b H3 =>
    if b = true then te σ2 H3 fun y H4 => ∃ acc, H4 L = some (.lst acc) ∧ acc.length < sizeLine ∧ Nx (upd H4 L (.lst (acc ++ [y]))) else Nx H3)
theorem tLc_eq (wi : TI) : tLc wi g tt te vs σ H Q = wi σ H fun J H1 => ∀ L, H1 L = none → CompR J g tt te vs σ H1 L Q := rfl
theorem comp_rng {n : Nat} {L : Addr} (Pv : Nat → Hp → Prop) (h0 : Pv 0 (upd H L (.lst [])))
    (hs : ∀ (i : Nat) H', i < n → Pv i H' → g (.int (i : Int)) (wipe σ vs) H' fun σ2 H2 => wipe σ2 vs = wipe σ vs ∧ tt σ2 H2 fun b H3 =>
      if b = true then te σ2 H3 fun y H4 => ∃ acc, H4 L = some (.lst acc) ∧ acc.length < sizeLine ∧ Pv (i + 1) (upd H4 L (.lst (acc ++ [y]))) else Pv (i + 1) H3) (hd : ∀ H', Pv n H' → Q (.ref L) H') : CompR (Itr 0 n) g tt te vs σ H L Q :=
  lc_range (lo := 0) (n := n) Pv h0 (fun i H' hi p => by
    have e : (0 : Int) + (i : Int) = (i : Int) := Int.zero_add _
    rw [e]
    exact hs i H' hi p) hd
theorem comp_list (xs : List V) {L : Addr} (Pv : Nat → Hp → Prop) (h0 : Pv 0 (upd H L (.lst []))) (hl : ∀ i H', i ≤ xs.length → Pv i H' → SqL K H' a xs)
    (hs : ∀ (i : Nat) x H', xs[i]? = some x → Pv i H' → g x (wipe σ vs) H' fun σ2 H2 => wipe σ2 vs = wipe σ vs ∧ tt σ2 H2 fun b H3 =>
      if b = true then te σ2 H3 fun y H4 => ∃ acc, H4 L = some (.lst acc) ∧ acc.length < sizeLine ∧ Pv (i + 1) (upd H4 L (.lst (acc ++ [y]))) else Pv (i + 1) H3) (hd : ∀ H', Pv xs.length H' → Q (.ref L) H') : CompR (Itl K a) g tt te vs σ H L Q :=
  lc_list (xs := xs) Pv h0 hl hs hd
end
/-! ### numbers -/
set_option exponentiation.threshold 3000 in
theorem div_ok {i n : Int} (h0 : 0 < n) (h : n ≤ 10 ^ 200) : CDivW i n := wide_div (b := 700) h0 (Nat.lt_of_le_of_lt (show n.natAbs ≤ 10 ^ 200 by omega) (by decide)) (by decide) (by decide)
set_option exponentiation.threshold 3000 in
theorem bits_le {n : Int} (h0 : 0 < n) (h : n ≤ 10 ^ 200) : Builtin.Int.intBits n ≤ 701 := by
  unfold Builtin.Int.intBits
  split
  · omega
  · have h1 : n.natAbs < 2 ^ 700 := Nat.lt_of_le_of_lt (show n.natAbs ≤ 10 ^ 200 by omega) (by decide)
    have h2 : n.natAbs.log2 < 700 := (Nat.log2_lt (by omega)).mpr h1
    omega
theorem mod_p (i : Int) : 0 ≤ i % 2305843009213693951 ∧ i % 2305843009213693951 < 2305843009213693951 := ⟨Int.emod_nonneg _ (by decide), Int.emod_lt_of_pos _ (by decide)⟩
theorem cm_l {i j : Int} : CMul (i % 2305843009213693951) j := .inl ⟨by have := (mod_p i).1; omega, by have := (mod_p i).2; omega⟩
theorem cm_r {i j : Int} : CMul j (i % 2305843009213693951) := .inr ⟨by have := (mod_p i).1; omega, by have := (mod_p i).2; omega⟩
theorem cp_3 {i : Int} : CPow (i % 2305843009213693951) 3 := ⟨by decide, by decide, by
  have h1 := mod_p i
  omega⟩
theorem div_c {i j : Int} (h0 : 0 < j) (h : j ≤ 1000000) : CDivW i j := div_ok h0 (Int.le_trans h (by decide))
/-! ### texts in a list -/
open NbS
theorem inV_strs (z : Str) (ns : List Str) : inV (.str z) (ns.map V.str) = decide (z ∈ ns) := by
  unfold inV
  rw [List.any_map, Bool.eq_iff_iff, List.any_eq_true, decide_eq_true_iff]
  exact ⟨fun ⟨y, h1, h2⟩ => by
    have e : y = z := eq_of_beq h2
    exact e ▸ h1, fun h => ⟨z, h, beq_self_eq_true z⟩⟩
theorem flat_strs (ns : List Str) : (ns.map V.str).all flatV = true := by
  rw [List.all_eq_true]
  intro v hv
  obtain ⟨z, _, rfl⟩ := List.mem_map.mp hv
  rfl
theorem in_crew {K : PySem.W.Frag} {H : Hp} {c : Addr} {ns : List Str} {z : Str} {Q : VK} (h : CrewAt H c ns) (q : Q (.bl (decide (z ∈ ns))) H) : rIn K false (.str z) (.ref c) H Q :=
  ⟨c, _, rfl, .inl (SqL.of h), rfl, flat_strs ns, by rw [inV_strs]; exact q⟩
theorem name_no {z : Str} (h : 8 < z.length) : nameOk z = false := by
  unfold nameOk
  rw [decide_eq_false (by omega)]
  rfl
theorem sz_le {n : Nat} (h : n ≤ 100000) : n ≤ sizeLine := Nat.le_trans h (by decide)
theorem sz_lt {n : Nat} (h : n < 100000) : n < sizeLine := Nat.lt_of_lt_of_le h (by decide)
theorem b1 : isB .lst "list" = true := by decide +kernel
theorem b2 : isB .tup "tuple" = true := by decide +kernel
theorem b3 : isB .str "str" = true := by decide +kernel
theorem b4 : isB .int "int" = true := by decide +kernel
theorem b5 : isB .int "bool" = false := by decide +kernel
theorem dk1 : (Kd.int == Kd.int) = true := by decide
section
variable {X : Cx} {K : PySem.W.Frag}
theorem ix_listK (hK : X.K = K) : IxR X (rIxL K) := hK ▸ ix_list
theorem ix_tupK (hK : X.K = K) : IxR X (rIxT K) := hK ▸ ix_tup
theorem sl_listK (hK : X.K = K) : SlR X (rSlL K) := hK ▸ sl_list
theorem pg_tupK {es : List Expr} {k : Nat} {t : TGs} {n : Nat} {pos : Pos} (hK : X.K = K) (hc : X.calm = true) (h : PGs X es t) (hn : (assignEach es X.env).length = n := by rfl) (hst : (assignEach es X.env).findIdx? (·.1) = none := by rfl) :
    PG X (.Tuple es k pos) (gTup K n t) := hK ▸ pg_tup hc h hn hst
theorem call_isiK' (hK : X.K = K) : CallR X (.builtin "isinstance") (rIsi K) := hK ▸ call_isi
theorem call_lenK (hK : X.K = K) : CallR X (.builtin "len") (fun xs H Q => ∃ p ys, xs = [.ref p] ∧ (SqL K H p ys ∨ SqT K H p ys) ∧ Q (.int ys.length) H) := hK ▸ call_len_seq
theorem op_in_seqK (hK : X.K = K) : OpR X (compareOp .In) (rIn K false) := hK ▸ op_in_seq
theorem op_eqDK (hK : X.K = K) (hu : X.A.units + 64 < cLine) : OpR X (compareOp .Eq) (rEqD K) := hK ▸ op_eqD hu
theorem op_neDK (hK : X.K = K) (hu : X.A.units + 64 < cLine) : OpR X (compareOp .NotEq) (rNeD K) := hK ▸ op_neD hu
theorem pe_fldK {e : Expr} {f : Str} {pos : Pos} {ta : TE} (hK : X.K = K) (he : PE X e ta) (hb : attributeBase e f X.env (eval e X.env) = eval e X.env) : PE X (.Attribute e f pos) (tFld K ta f) := hK ▸ pe_fld he hb
end
section
variable {X : Cx} {K : PySem.W.Frag} {T id : String} {name : Str} {r : V → List V → Hp → VK → Prop} {o e : Expr} {es : List Expr} {to : TE} {t : TA} {apos cpos : Pos}
theorem pe_bm0K (hK : X.K = K) (pa : PlainAttrs T) (slot : Slot T name id) (hty : typeOf (.builtin id) = pure (.type "method_descriptor")) (hm : MtR X id r) (ho : PE X o to)
    (hb : attributeBase o name X.env (eval o X.env) = eval o X.env := by rfl) (hl : (apos.endLine == cpos.line) = true := by rfl) : PE X (.Call (.Attribute o name apos) [] [] cpos) (tBM0 K T r to) := hK ▸ pe_bm0 pa slot hty hm ho hb hl
theorem pe_bmK (hK : X.K = K) (pa : PlainAttrs T) (slot : Slot T name id) (hty : typeOf (.builtin id) = pure (.type "method_descriptor")) (hm : MtR X id r) (ho : PE X o to) (ha : PA X (e :: es) t)
    (hb : attributeBase o name X.env (eval o X.env) = eval o X.env := by rfl)
    (hf : ((backTo cpos (starEach (e :: es) X.env)).all (fun x => !x.1) && (backToKw cpos (keywordEach [] X.env)).all (fun x => x.1.isSome) && decide ((e :: es).length + ([] : List Keyword).length + (if ([] : List Keyword).isEmpty then 0 else 1) < 30)) = true := by rfl)
    (hl : (apos.endLine == cpos.line) = true := by rfl) (hs : starEach (e :: es) X.env = (false, eval e X.env) :: starEach es X.env := by rfl) (hp : (backTo cpos (starEach es X.env)).any (·.1) = false := by rfl) :
    PE X (.Call (.Attribute o name apos) (e :: es) [] cpos) (tBM K T r to t) := hK ▸ pe_bm pa slot hty hm ho ha hb hf hl hs hp
open NbE in
theorem two_eqK {C : Two} {k : Nat} {f : Addr} {sp : Sp} (hK : X.K = K) (Z : TwoOk X.K C f) (F : At X k f sp) (hr : Room k X.A) : OpR X (compareOp .Eq) (rTwo K C sp (fun b => b)) := hK ▸ two_eq Z F hr
open NbE in
theorem two_neK {C : Two} {k : Nat} {f : Addr} {sp : Sp} (hK : X.K = K) (Z : TwoOk X.K C f) (F : At X k f sp) (hr : Room (k + 1) X.A) : OpR X (compareOp .NotEq) (rTwo K C sp not) := hK ▸ two_ne Z F hr
end
/-- a statement ahead of others, told by what is true behind it -/
theorem cut_seq {ta tb : TS} {D : Ends} {σ : L2.St} {H : Hp} (M : L2.St → Hp → Prop) (h1 : ∀ N : L2.St → Hp → Prop, (∀ σ' H', M σ' H' → N σ' H') → ta { D with nx := N } σ H) (h2 : ∀ σ' H', M σ' H' → tb D σ' H') : tSeq ta tb D σ H := h1 _ h2
theorem ents_ok {ns : List Str} {es : List En} {lim : Int} {n : Nat} (hn : n ≤ 200) (hl : es.length ≤ n) (h : ∀ e ∈ es, e.1 ∈ ns ∧ 0 ≤ e.2 ∧ e.2 < lim) : EnsOk ns es := ⟨by omega, fun e he => by
  obtain ⟨h1, h2, _⟩ := h e he
  unfold enOk
  rw [decide_eq_true h1, decide_eq_true h2]
  rfl⟩
theorem ifN {c A B : Prop} [Decidable c] (h : ¬ c) (b : B) : if c then A else B := by rw [if_neg h]; exact b
theorem ifP {c A B : Prop} [Decidable c] (h : c) (a : A) : if c then A else B := by rw [if_pos h]; exact a
theorem upd_keep {H : Hp} {p b : Addr} {o u : HO} (h : H b = some u) (n : b ≠ p) : upd H p o b = some u := by rw [upd_ne n]; exact h
theorem rall {K : PySem.W.Frag} {H : Hp} {L : Addr} {bs : List Bool} {Q : VK} (h : H L = some (.lst (bs.map V.bl))) (q : Q (.bl (bs.all id)) H) : rAll K [.ref L] H Q := ⟨L, bs, rfl, SqL.of h, q⟩
theorem all_rep (n : Nat) : ((List.replicate n true).all id) = true := by
  rw [List.all_eq_true]
  intro x hx
  exact (List.mem_replicate.mp hx).2
theorem rep_snoc (n : Nat) : (List.replicate n true).map V.bl ++ [V.bl true] = (List.replicate (n + 1) true).map V.bl := by
  rw [List.replicate_succ', List.map_append]
  rfl
theorem CrewAt.sq {K : PySem.W.Frag} {H : Hp} {c : Addr} {ns : List Str} (h : CrewAt H c ns) : SqL K H c (ns.map V.str) := SqL.of h
/-- the same list's copy -/
theorem EntsAt.copy {H H' : Hp} {s l : Addr} {es : List En} {ts : List Addr} (h : Ents H ts es) (k : ∀ t xs, H t = some (.tup xs) → H' t = some (.tup xs)) (hl : H' l = some (.lst (ts.map V.ref))) : EntsAt H' l es := ⟨ts, hl, h.imp k⟩
theorem cut_to {xs : List V} {n : Nat} (h : n ≤ xs.length) : cutV xs none (some (n : Int)) = xs.take n := by
  unfold cutV
  rw [HT.sIx_none, HT.sIx_nat, Nat.min_eq_left h, Nat.sub_zero, List.drop_zero]
theorem cut_from (xs : List V) (n : Nat) : cutV xs (some (n : Int)) none = xs.drop n := by
  unfold cutV
  rw [HT.sIx_none, HT.sIx_nat]
  by_cases h : n ≤ xs.length
  · rw [Nat.min_eq_left h]
    exact List.take_of_length_le (by rw [List.length_drop]; exact Nat.le_refl _)
  · rw [Nat.min_eq_right (by omega), Nat.sub_self, List.take_zero, List.drop_of_length_le (by omega)]
theorem cut_to' (xs : List V) (n : Nat) : cutV xs none (some (n : Int)) = xs.take n := by
  by_cases h : n ≤ xs.length
  · exact cut_to h
  · unfold cutV
    rw [HT.sIx_none, HT.sIx_nat, Nat.min_eq_right (by omega), Nat.sub_zero, List.drop_zero, List.take_length, List.take_of_length_le (by omega)]
/-! ### the law's names -/
theorem n12_ok : ∀ z ∈ N12, nameOk z = true := by
  have h : N12.all nameOk = true := by decide +kernel
  exact fun z hz => List.all_eq_true.mp h z hz
theorem n12_nd : N12.Nodup := by decide +kernel
theorem crew_of {ns left : List Str} (h1 : 1 ≤ ns.length) (h2 : ns.length ≤ 12) (h : (ns ++ left).Perm N12) : Crew ns :=
  ⟨⟨h1, h2⟩, (List.nodup_append.mp (h.nodup_iff.mpr n12_nd)).1, fun z hz => n12_ok z (h.subset (List.mem_append_left _ hz))⟩
theorem erase_perm {α : Type} : ∀ (l : List α) (k : Nat) (h : k < l.length), ([l[k]] ++ l.eraseIdx k).Perm l
  | [], _, h => absurd h (Nat.not_lt_zero _)
  | x :: l, 0, _ => .refl _
  | x :: l, k + 1, h => by
    have h' : k < l.length := Nat.lt_of_succ_lt_succ h
    show ([l[k]] ++ (x :: l.eraseIdx k)).Perm (x :: l)
    exact (List.Perm.swap x l[k] _).trans (.cons x (erase_perm l k h'))
theorem map_erase {α β : Type} (f : α → β) : ∀ (l : List α) (k : Nat), (l.map f).eraseIdx k = (l.eraseIdx k).map f
  | [], _ => rfl
  | _ :: _, 0 => rfl
  | x :: l, k + 1 => congrArg (f x :: ·) (map_erase f l k)
theorem pop_perm {ns left : List Str} {k : Nat} {z : Str} (h : (ns ++ left).Perm N12) (hk : left[k]? = some z) : ((ns ++ [z]) ++ left.eraseIdx k).Perm N12 := by
  refine List.Perm.trans ?_ h
  rw [List.append_assoc]
  refine List.Perm.append_left ns ?_
  obtain ⟨hl, e⟩ := List.getElem?_eq_some_iff.mp hk
  subst e
  exact erase_perm left k hl
/-- a log made -/
theorem mk_newX {K : PySem.W.Frag} {H : Hp} {Q : VK} {b : Bool} {z : Int} {c s : Addr} {ns : List Str} {es : List En} (hw : WF z ns es) (hc : CrewAt H c ns) (hs : EntsAt H s es) (q : NewLogX K H Q b z ns es) :
    ∀ x dx : Addr, H x = none → H dx = none → dx ≠ x → sp_Log_init K [.ref x, .int z, .ref c, .ref s] (upd (upd H dx (.own x)) x (.ins (C2 K b) dx [])) (fun v H2 => v = .non ∧ Q (.ref x) H2) C8.E0 := by
  intro x dx hx hd hn
  have e1 : Same H (upd H dx (.own x)) := Same.new (Same.refl _) hd
  have e2 : Same H (upd (upd H dx (.own x)) x (.ins (C2 K b) dx [])) := Same.new e1 (by rw [upd_ne hn.symm]; exact hx)
  refine ⟨x, dx, b, z, c, s, ns, es, rfl, upd_same, hw, hc.same e2, hs.same e2, fun H' ls le k hl h1 h2 => ⟨rfl, q x H' ls le hx (fun a o h => k a o (fun e => ?_) (e2 a o h)) hl (e2.free h1) (e2.free h2)⟩⟩
  rw [e, hx] at h
  cases h
theorem mk_new {K : PySem.W.Frag} {H : Hp} {Q : VK} {b : Bool} {z : Int} {c s : Addr} {ns : List Str} {es : List En} (hw : WF z ns es) (hc : CrewAt H c ns) (hs : EntsAt H s es) (q : NewLog K H Q b z ns es) :
    ∀ x dx : Addr, H x = none → H dx = none → dx ≠ x → sp_Log_init K [.ref x, .int z, .ref c, .ref s] (upd (upd H dx (.own x)) x (.ins (C2 K b) dx [])) (fun v H2 => v = .non ∧ Q (.ref x) H2) C8.E0 := mk_newX hw hc hs q.x
/-! ### entries in a list -/
theorem ne_nil {K : PySem.W.Frag} {H : Hp} {s p : Addr} {es : List En} {ns : List Str} {Q : VK} (hs : EntsAt H s es) (hp : H p = some (.lst [])) (hn : Crew ns) (hw : EnsOk ns es) (q : Q (.bl (decide (es ≠ []))) H) : rNeD K (.ref s) (.ref p) H Q := by
  refine ⟨_, _, hs.dp, .lst (SqL.of hp) .nil, shaped_ens hn hw, by decide +kernel, ?_⟩
  show Q (.bl (!PyData.eqvAll (es.map enD) (([] : List En).map enD))) H
  rw [eqv_ens]
  simpa using q
theorem eq_int {i j : Int} {H : Hp} {Q : VK} (q : Q (.bl (decide (i = j))) H) : rEq (.int i) (.int j) H Q := by
  refine ⟨rfl, ?_⟩
  have e : decide (V.int i = V.int j) = decide (i = j) := decide_eq_decide.mpr ⟨fun h => V.int.inj h, fun h => by rw [h]⟩
  rw [e]
  exact q
theorem EntsAt.at {H : Hp} {s : Addr} {es : List En} (h : EntsAt H s es) {a : Int} (h0 : 0 ≤ a) (h1 : a < (es.length : Int)) : ∃ xs t e, H s = some (.lst xs) ∧ atI xs a = some (.ref t) ∧ H t = some (.tup [.str e.1, .int e.2]) ∧ es[a.toNat]? = some e ∧ e ∈ es := by
  obtain ⟨ts, hs, ht⟩ := h
  obtain ⟨k, rfl⟩ : ∃ k : Nat, a = (k : Int) := ⟨a.toNat, by omega⟩
  have hk : k < es.length := by omega
  obtain ⟨t, g1, g2⟩ := ht.get' (List.getElem?_eq_getElem hk)
  exact ⟨_, t, es[k], hs, atI_nat (by rw [List.getElem?_map, g1]; rfl), g2, List.getElem?_eq_getElem hk, List.getElem_mem hk⟩
theorem ixN_n {n j : Nat} (hj : j < n) : ixN n (j : Int) = some j := by
  unfold ixN
  rw [if_pos (by omega), if_pos (by omega)]
  simp
theorem Stp.free0 {fa p : Addr} {H H' H2 : Hp} (e : Stp fa H H') (s : Same H' H2) (h : H2 p = none) : H p = none := e.free ((e.same s).fd.ne h) (s.free h)
theorem EntsAt.put {H : Hp} {x t : Addr} {es : List En} {e : En} (h : EntsAt H x es) (ht : H t = some (.tup [.str e.1, .int e.2])) {a : Int} (h0 : 0 ≤ a) (h1 : a < (es.length : Int)) :
    ∃ xs k, H x = some (.lst xs) ∧ ixN xs.length a = some k ∧ EntsAt (upd H x (.lst (xs.set k (.ref t)))) x (es.set k e) := by
  obtain ⟨ts, hs, hts⟩ := h
  obtain ⟨k, rfl⟩ : ∃ k : Nat, a = (k : Int) := ⟨a.toNat, by omega⟩
  have hl := hts.len
  refine ⟨_, k, hs, ixN_n (by rw [List.length_map]; omega), ts.set k t, by rw [upd_same, List.map_set], ?_⟩
  exact Ents.set (upd_keep ht (ne_of ht hs (by simp))) k (hts.imp fun b xs g => upd_keep g (ne_of g hs (by simp)))
theorem ens_set {ns : List Str} {es : List En} {e : En} (h : EnsOk ns es) (he : enOk ns e = true) (k : Nat) : EnsOk ns (es.set k e) := ⟨by rw [List.length_set]; exact h.few, fun x hx => by
  rcases List.mem_or_eq_of_mem_set hx with g | g
  · exact h.ok x g
  · exact g ▸ he⟩
/-! ### own == and != -/
theorem two_logs {K : PySem.W.Frag} (F : LF K) {H : Hp} {x y : Addr} {b b' : Bool} {z z' : Int} {ns ns' : List Str} {es es' : List En} {g : Bool → Bool} {Q : VK} (h : LogAt K H x b z ns es) (h' : LogAt K H y b' z' ns' es')
    (q : Q (.bl (g (decide (b = b' ∧ z = z' ∧ ns = ns' ∧ es = es')))) H) : NbE.rTwo K (C2 K) (sp_Log_eq K) g (.ref x) (.ref y) H Q := by
  obtain ⟨dx, ls, le, h1, _⟩ := id h
  obtain ⟨dy, ls', le', h1', _⟩ := id h'
  refine ⟨x, b, dx, _, rfl, h1, ?_⟩
  by_cases hb : b = false ∧ b' = true
  · obtain ⟨rfl, rfl⟩ := hb
    refine .inl ⟨y, dy, _, rfl, rfl, h1', y, true, z', ns', es', .ref x, _, rfl, h', h.knd, .inr ⟨x, false, z, ns, es, rfl, h, _, rfl, ?_⟩⟩
    simpa using q
  · refine .inr ⟨_, h'.knd.ty F, Knd.not1st F _ _ (fun e => hb ⟨e.1, Kd.log.inj e.2⟩), x, b, z, ns, es, .ref y, _, rfl, h, h'.knd, .inr ⟨y, b', z', ns', es', rfl, h', _, rfl, q⟩⟩
theorem two_odd {K : PySem.W.Frag} (F : LF K) {H : Hp} {x : Addr} {y : V} {d : Kd} {b : Bool} {z : Int} {ns : List Str} {es : List En} {g : Bool → Bool} {Q : VK} (h : LogAt K H x b z ns es) (k : Knd K H y d) (n1 : d ≠ .log true) (n2 : d ≠ .log false)
    (q : Q (.bl (g false)) H) : NbE.rTwo K (C2 K) (sp_Log_eq K) g (.ref x) y H Q := by
  obtain ⟨dx, ls, le, h1, _⟩ := id h
  exact ⟨x, b, dx, _, rfl, h1, .inr ⟨_, k.ty F, Knd.not1st F _ _ (fun e => n1 e.2), x, b, z, ns, es, y, _, rfl, h, k, .inl ⟨n1, n2, _, rfl, q⟩⟩⟩
/-- a list of logs changed: a log stands -/
theorem LogAt.put {K : PySem.W.Frag} {H : Hp} {p ot : Addr} {os : List Addr} {u : HO} {b : Bool} {z : Int} {ns : List Str} {es : List En} (h : LogAt K H p b z ns es) (ho : H ot = some (.lst (os.map V.ref))) (hi : ∃ o ∈ os, ∃ C dx fs, H o = some (.ins C dx fs)) :
    LogAt K (upd H ot u) p b z ns es := by
  obtain ⟨dx, ls, le, h1, h2, ⟨ts, h3, h4⟩, h5⟩ := h
  obtain ⟨o, om, C, dx', fs', hoi⟩ := hi
  have n1 : p ≠ ot := ne_of h1 ho (by simp)
  have n2 : ls ≠ ot := by
    rintro rfl
    unfold CrewAt at h2
    rw [h2] at ho
    cases os with
    | nil => cases om
    | cons o os =>
      cases ns with
      | nil => cases ho
      | cons n ns => cases ho
  have n3 : le ≠ ot := by
    rintro rfl
    rw [h3] at ho
    have e : ts.map V.ref = os.map V.ref := HO.lst.inj (Option.some.inj ho)
    have e' : ts = os := by
      have := congrArg (List.map fun v : V => match v with | .ref a => a | _ => 0) e
      simpa [List.map_map, Function.comp_def] using this
    subst e'
    obtain ⟨i, hi⟩ := List.mem_iff_getElem?.mp om
    obtain ⟨en, _, g⟩ := h4.get hi
    rw [hoi] at g
    cases g
  refine ⟨dx, ls, le, upd_keep h1 n1, upd_keep h2 n2, ⟨ts, upd_keep h3 n3, h4.imp fun t xs g => upd_keep g (ne_of g ho (by simp))⟩, h5⟩
theorem LogAt.ins {K : PySem.W.Frag} {H : Hp} {p : Addr} {b : Bool} {z : Int} {ns : List Str} {es : List En} (h : LogAt K H p b z ns es) : ∃ C dx fs, H p = some (.ins C dx fs) := by
  obtain ⟨dx, ls, le, h1, _⟩ := h
  exact ⟨_, _, _, h1⟩
theorem rev_ne {ns : List Str} (h : ns.Nodup) (hl : 1 < ns.length) : ns ≠ ns.reverse := by
  match ns, h, hl with
  | a :: b :: r, h, _ =>
    intro e
    rw [List.reverse_cons] at e
    cases q : (b :: r).reverse with
    | nil => simp at q
    | cons x xs =>
      rw [q] at e
      injection e with e1 e2
      have hm : a ∈ (b :: r).reverse := by rw [q, e1]; exact List.mem_cons_self ..
      exact (List.nodup_cons.mp h).1 (List.mem_reverse.mp hm)
theorem enOk_sub {ns ms : List Str} {e : En} (h : ∀ x ∈ ns, x ∈ ms) (k : enOk ns e = true) : enOk ms e = true := by
  unfold enOk at k ⊢
  simp only [Bool.and_eq_true, decide_eq_true_eq] at k ⊢
  exact ⟨h _ k.1, k.2⟩
theorem ensOk_sub {ns ms : List Str} {es : List En} (h : ∀ x ∈ ns, x ∈ ms) (k : EnsOk ns es) : EnsOk ms es := ⟨k.few, fun e he => enOk_sub h (k.ok e he)⟩
/-- an empty list is no other than an empty one -/
theorem no_nil {K : PySem.W.Frag} {H : Hp} {l p : Addr} {Q : VK} (hl : H l = some (.lst [])) (hp : H p = some (.lst [])) (q : Q (.bl false) H) : rNeD K (.ref l) (.ref p) H Q :=
  ⟨.list [], .list [], .lst (SqL.of hl) .nil, .lst (SqL.of hp) .nil, by decide +kernel, by decide +kernel, q⟩
theorem shaped_b3 (a b c : Bool) : SeqAt.shaped (.list [.bool a, .bool b, .bool c]) = true := by cases a <;> cases b <;> cases c <;> decide +kernel
theorem eqv_b3 (d : Bool) : (!PyData.eqv (.list [.bool (id d), .bool (id d), .bool (not d)]) (.list [.bool d, .bool d, .bool (!d)])) = false := by cases d <;> decide +kernel
theorem b3_dp {K : PySem.W.Frag} {H : Hp} {p : Addr} {a b c : Bool} (h : H p = some (.lst [.bl a, .bl b, .bl c])) : Dp K H (.ref p) (.list [.bool a, .bool b, .bool c]) := .lst (SqL.of h) (.cons (.bl _) (.cons (.bl _) (.cons (.bl _) .nil)))
theorem sqL_same {K : PySem.W.Frag} {H H' : Hp} {a : Addr} {xs : List V} (h : SqL K H a xs) (e : Same H H') : SqL K H' a xs :=
  h.elim (fun h => .inl (h.elim (fun h => .inl (e _ _ h)) fun ⟨o, h⟩ => .inr ⟨o, e _ _ h⟩)) fun h => .inr h
/-- a feed that was not there: all that was stands -/
theorem Stp.out {fa : Addr} {H H1 H2 : Hp} (e : Same H H1) (h : H fa = none) (s : Stp fa H1 H2) : Same H H2 := fun b o g => s.kp b o (fun q => by rw [q, h] at g; cases g) (e b o g)
theorem wf_a : WF 5 [("a" : Str)] [] := ⟨⟨by decide, by decide +kernel⟩, ⟨by decide, by decide +kernel, by decide +kernel⟩, ⟨by decide, fun _ h => nomatch h⟩⟩
/-- Log(5, ["a"], []) -/
theorem mk_a {K : PySem.W.Frag} {H : Hp} {Pn : Addr → Hp → Prop} {b : Bool} {p p1 : Addr} (hp : H p = none) (hp1 : upd H p (.lst [.str "a"]) p1 = none) (q : ∀ x H', Same H H' → LogAt K H' x b 5 ["a"] [] → Pn x H') :
    ∀ x dx : Addr, upd (upd H p (.lst [.str "a"])) p1 (.lst []) x = none → upd (upd H p (.lst [.str "a"])) p1 (.lst []) dx = none → dx ≠ x →
      sp_Log_init K [.ref x, .int 5, .ref p, .ref p1] (upd (upd (upd (upd H p (.lst [.str "a"])) p1 (.lst [])) dx (.own x)) x (.ins (C2 K b) dx [])) (fun v H2 => v = .non ∧ Pn x H2) C8.E0 := by
  intro x dx hx hd hn
  have s2 := Same.new (o := .lst []) (Same.new (o := .lst [.str "a"]) (Same.refl H) hp) hp1
  obtain ⟨p', dx', b', z, c, s, ns, es, h1, h2, h3, h4, h5, h6⟩ := mk_new (Q := fun v H2 => ∀ a, v = .ref a → Pn a H2) (b := b) wf_a (upd_keep upd_same (ne_of_none upd_same hp1)) (s := p1) (es := []) ⟨[], upd_same, trivial⟩ (fun x H' _ e h a ea => by
    cases ea
    exact q _ _ (s2.trans e) h) x dx hx hd hn
  refine ⟨p', dx', b', z, c, s, ns, es, h1, h2, h3, h4, h5, fun H' ls le k hl h7 h8 => ?_⟩
  obtain ⟨g1, g2⟩ := h6 H' ls le k hl h7 h8
  exact ⟨g1, g2 x rfl⟩
end NbF

set_option Elab.async false
set_option linter.all false
set_option maxRecDepth 100000
set_option maxHeartbeats 4000000
/-! How long the text of data is. -/
namespace NbP
open PySem PySem.Spec PyProof.Rows L2 Nb NbS NbF
structure Shw (W D : Nat) (d : PyData) : Prop where
  sh : d.showable = true
  nd : d.hasDict = false
  lv : d.leavesShort 70 = true
  wt : d.weight ≤ W
  dp : d.depth ≤ D
theorem Shw.fits {W D : Nat} {d : PyData} (h : Shw W D d) (hW : W ≤ 200000) : d.shown.length ≤ sizeLine := by
  have h1 := PyData.shown_le 70 (by decide) d h.lv
  have h2 : (70 + 2) * d.weight ≤ (70 + 2) * 200000 := Nat.mul_le_mul_left _ (Nat.le_trans h.wt hW)
  rw [sizeLine_eq]
  omega
theorem Shw.mono {W D W' D' : Nat} {d : PyData} (h : Shw W D d) (hW : W ≤ W') (hD : D ≤ D') : Shw W' D' d := ⟨h.sh, h.nd, h.lv, Nat.le_trans h.wt hW, Nat.le_trans h.dp hD⟩
theorem shw_int {i : Int} (h1 : -(10 ^ 60) < i) (h2 : i < 10 ^ 60) : Shw 201 0 (.int i) := by
  have hn : i.natAbs < 10 ^ 60 := by omega
  have hb : i.natAbs < 2 ^ 200 := Nat.lt_of_lt_of_le hn (by decide)
  have hl : i.natAbs.log2 < 200 := by
    by_cases h0 : i.natAbs = 0
    · rw [h0]; decide
    · exact (Nat.log2_lt h0).mpr hb
  refine ⟨?_, rfl, ?_, ?_, Nat.le_refl _⟩
  · unfold PyData.showable
    exact decide_eq_true (by omega)
  · unfold PyData.leavesShort
    refine decide_eq_true ?_
    unfold PyData.shown
    rw [PySem.ofString_length]
    exact Nat.le_trans (int_text_length_le10 (k := 60) (by decide) hn) (by decide)
  · unfold PyData.weight
    split <;> omega
theorem shw_name {z : Str} (h : nameOk z = true) : Shw 8 0 (.str z) := by
  have h8 : z.length ≤ 8 := by
    unfold nameOk at h
    simp only [Bool.and_eq_true, decide_eq_true_eq] at h
    exact h.1
  refine ⟨by unfold PyData.showable; rfl, by unfold PyData.hasDict; rfl, ?_, ?_, by unfold PyData.depth; exact Nat.le_refl _⟩
  · have g := strOk_of h
    unfold PyData.leavesShort
    rw [List.all_eq_true]
    intro c hc
    have g' : (z.cps.all fun c => decide (c < 0x110000)) = true := g
    rw [← Array.all_toList, List.all_eq_true] at g'
    have := of_decide_eq_true (g' c hc)
    exact decide_eq_true (Nat.lt_of_lt_of_le this (by decide))
  · unfold PyData.weight
    exact h8
theorem shw_all {W D : Nat} : ∀ {ds : List PyData}, (∀ d ∈ ds, Shw W D d) → PyData.showableAll ds = true ∧ PyData.hasDictAll ds = false ∧ PyData.leavesShortAll 70 ds = true ∧ PyData.weightAll ds ≤ ds.length * (W + 1) ∧ PyData.depthAll ds ≤ D
  | [], _ => ⟨by unfold PyData.showableAll; rfl, by unfold PyData.hasDictAll; rfl, by unfold PyData.leavesShortAll; rfl, by unfold PyData.weightAll; omega, by unfold PyData.depthAll; omega⟩
  | d :: ds, h => by
    obtain ⟨a1, a2, a3, a4, a5⟩ := shw_all fun x hx => h x (List.mem_cons_of_mem _ hx)
    have b := h d (List.mem_cons_self ..)
    refine ⟨?_, ?_, ?_, ?_, ?_⟩
    · unfold PyData.showableAll; rw [b.sh, a1]; rfl
    · unfold PyData.hasDictAll; rw [b.nd, a2]; rfl
    · unfold PyData.leavesShortAll; rw [b.lv, a3]; rfl
    · unfold PyData.weightAll
      rw [List.length_cons, Nat.add_mul]
      have := b.wt
      omega
    · unfold PyData.depthAll
      exact Nat.max_le.mpr ⟨b.dp, a5⟩
theorem shw_list {W D n : Nat} {ds : List PyData} (h : ∀ d ∈ ds, Shw W D d) (hn : ds.length ≤ n) : Shw (n * (W + 1)) (D + 1) (.list ds) := by
  obtain ⟨a1, a2, a3, a4, a5⟩ := shw_all h
  refine ⟨by unfold PyData.showable; exact a1, by unfold PyData.hasDict; exact a2, by unfold PyData.leavesShort; exact a3, ?_, by unfold PyData.depth; omega⟩
  unfold PyData.weight
  exact Nat.le_trans a4 (Nat.mul_le_mul_right _ hn)
theorem shw_tup {W D n : Nat} {ds : List PyData} (h : ∀ d ∈ ds, Shw W D d) (hn : ds.length ≤ n) : Shw (n * (W + 1)) (D + 1) (.tuple ds) := by
  obtain ⟨a1, a2, a3, a4, a5⟩ := shw_all h
  refine ⟨by unfold PyData.showable; exact a1, by unfold PyData.hasDict; exact a2, by unfold PyData.leavesShort; exact a3, ?_, by unfold PyData.depth; omega⟩
  unfold PyData.weight
  exact Nat.le_trans a4 (Nat.mul_le_mul_right _ hn)
theorem shw_crew {ns : List Str} (h : Crew ns) : Shw 108 1 (.list (ns.map PyData.str)) := shw_list (W := 8) (n := 12) (fun d hd => by
  obtain ⟨z, hz, rfl⟩ := List.mem_map.mp hd
  exact shw_name (h.ok z hz)) (by rw [List.length_map]; exact h.few.2)
theorem shw_en {ns : List Str} (h : Crew ns) {e : En} (he : enOk ns e = true) (hl : e.2 < 10 ^ 60) : Shw 404 1 (enD e) := by
  unfold enOk at he
  simp only [Bool.and_eq_true, decide_eq_true_eq] at he
  refine shw_tup (W := 201) (n := 2) (fun d hd => ?_) (Nat.le_refl _)
  rcases List.mem_cons.mp hd with rfl | hd
  · exact (shw_name (h.ok _ he.1)).mono (by decide) (Nat.le_refl _)
  · cases List.mem_singleton.mp hd
    exact shw_int (by omega) hl
theorem shw_ens {ns : List Str} {es : List En} (h : Crew ns) (g : EnsOk ns es) (hl : ∀ e ∈ es, e.2 < 10 ^ 60) : Shw 81000 2 (.list (es.map enD)) := shw_list (W := 404) (n := 200) (fun d hd => by
  obtain ⟨e, he, rfl⟩ := List.mem_map.mp hd
  exact shw_en h (g.ok e he) (hl e he)) (by rw [List.length_map]; exact g.few)
/-- [size, servers, entries] as data -/
def logD (z : Int) (ns : List Str) (es : List En) : PyData := .list [.int z, .list (ns.map PyData.str), .list (es.map enD)]
theorem shw_log {z : Int} {ns : List Str} {es : List En} (hz : SizeOk z) (h : Crew ns) (g : EnsOk ns es) (hl : ∀ e ∈ es, e.2 < 10 ^ 60) : (logD z ns es).showable = true ∧ (logD z ns es).hasDict = false ∧ (logD z ns es).depth ≤ 60 ∧ (logD z ns es).shown.length ≤ sizeLine := by
  have k := shw_ens h g hl
  have k2 := shw_crew h
  have k1 : Shw 201 0 (.int z) := shw_int (by have := hz.1; omega) (by have := hz.2; omega)
  have w : (logD z ns es).weight ≤ 200000 := by
    unfold logD
    simp only [PyData.weight, PyData.weightAll] at *
    have a := k.wt
    have b := k2.wt
    have c := k1.wt
    simp only [PyData.weight] at a b c
    omega
  have s : Shw (3 * (81000 + 1)) 3 (logD z ns es) := shw_list (W := 81000) (D := 2) (n := 3) (fun d hd => by
    rcases List.mem_cons.mp hd with rfl | hd
    · exact k1.mono (by decide) (by decide)
    · rcases List.mem_cons.mp hd with rfl | hd
      · exact k2.mono (by decide) (by decide)
      · cases List.mem_singleton.mp hd
        exact k) (Nat.le_refl _)
  exact ⟨s.sh, s.nd, Nat.le_trans s.dp (by decide), Shw.fits (⟨s.sh, s.nd, s.lv, w, s.dp⟩ : Shw 200000 3 _) (Nat.le_refl _)⟩
end NbP

set_option Elab.async false
set_option linter.all false
set_option maxRecDepth 100000
set_option maxHeartbeats 4000000
/-! x in an object with an own __contains__; max(.., default=d) of whole numbers; an own class made by keywords alone. -/
namespace NbK
open PySem PySem.Spec PyProof.Rows L2 NbE
section
variable {M : Model} {A : Around} {E : Value → Shared → Prop} {s : Shared} {K : PySem.W.Frag} {x C f : Addr} {ox : Obj} {od : Option Obj} {v : Value}
open PySem.W in
theorem in_own {Q : Value → Shared → Prop} (X : K.In s.heap) (I : InstAt s.heap x ox C od) (hs : findIn K (.ref C) "__contains__" = some (some (.ref f))) (hf : isFn K (.ref f) = true)
    (h : wpAny M A (call (.ref f) [.ref x, v]) (fun r s' => ∃ c, r = .bool c ∧ Q (.bool c) s') E s) : wpAny M A (compareOp .In v (.ref x)) Q E s := by
  have k : wpAny M A (contains (.ref x) v) (fun c s' => Q (.bool c) s') E s := by
    unfold contains
    refine wpAny_holding (wpAny_bind (wpAny_bind (I.type.here ((looks_findIn X hs).here ?_))))
    rw [if_neg (show ¬ _ by simp)]
    refine wpAny_bind (unlessNone_K X I hs hf ?_)
    refine wpAny_mono h (fun r s' z => ?_) fun _ _ z => z
    obtain ⟨c, rfl, q⟩ := z
    exact wpAny_truthy_bool q
  exact wpAny_bind (wpAny_mono k (fun _ _ z => wpAny_pure z) fun _ _ z => z)
end
section
variable {X : Cx} {k : Nat} {f : Addr} {sp : Sp} {C : Two}
def rIn2 (K : PySem.W.Frag) (C : Two) (sp : Sp) : R2 := fun x y H Q => ∃ (a : Addr) (c : Bool) (dx : Addr) (fs : List (Str × V)), y = .ref a ∧ H a = some (.ins (C c) dx fs) ∧ sp [y, x] H (fun v H' => ∃ r, v = .bl r ∧ Q (.bl r) H') E0
theorem op_in2 (M : Met2 X.K C "__contains__" f) (F : At X k f sp) (hr : Room k X.A) : OpR X (compareOp .In) (rIn2 X.K C sp) := by
  intro pins s σ H x y v u Q I rx ry h
  obtain ⟨a, c, dx, fs, rfl, ha, q⟩ := h
  cases ry
  obtain ⟨mA, O, _⟩ := ins_get I.hok ha
  obtain ⟨od, J, _⟩ := O.look
  refine in_own I.kIn J (M.me c).at_ (M.me c).fn (wpAny_mono (run_at (vs := [.ref a, x]) F hr rfl I (.cons rfl (.cons rx .nil)) q) (fun w s' z => ?_) fun _ _ z => z)
  obtain ⟨v', H', I', rv, r, rfl, z⟩ := z
  cases rv
  exact ⟨r, rfl, .bl r, H', I', rfl, z⟩
theorem op_in2K {K : PySem.W.Frag} (hK : X.K = K) (M : Met2 X.K C "__contains__" f) (F : At X k f sp) (hr : Room k X.A) : OpR X (compareOp .In) (rIn2 K C sp) := hK ▸ op_in2 M F hr
open PySem.W in
/-- len of an object whose own __len__ tells n -/
theorem len_own {prog : Program} {w : World} {A : Around} {E : Value → Shared → Prop} {s : Shared} {K : PySem.W.Frag} {x D f : Addr} {ox : Obj} {od : Option Obj} {Q : Value → Shared → Prop} (X : K.In s.heap) (I : InstAt s.heap x ox D od) (hs : findIn K (.ref D) "__len__" = some (some (.ref f)))
    (hf : isFn K (.ref f) = true) (h : wpAny (model prog w) A.in1 (call (.ref f) [.ref x]) (fun v s' => ∃ n t, v = .int n t ∧ 0 ≤ n ∧ n < 2 ^ 63 ∧ Q (.int n s'.toks) { s' with toks := s'.toks + 1 }) E s) : wpAny (model prog w) A (call (.builtin "len") [.ref x]) Q E s := by
  refine Calls.call_function_entry kind_len plain_len entry_len (args_len1 _) (show wpAny _ _ (Builtin.«len» _) _ _ _ from ?_)
  unfold Builtin.«len»; refine wpAny_bind (m := oneArg "len" _) (wpAny_pure ?_)
  refine wpAny_bind (m := callSpecial? (.ref x) (Str.ofString "__len__")) (special_fn X I hs (beq_iff_eq.mp hf) (wpAny_mono h (fun r s' z => ?_) fun _ _ y => y))
  obtain ⟨n, t, rfl, h0, h1, q⟩ := z
  refine wpAny_bind (wpAny_holding (wpAny_pure (wpAny_bind (wpAny_letGo ?_))))
  show wpAny _ _ (if n < 0 then _ else _) _ _ _; rw [if_neg (Int.not_lt.mpr h0)]
  show wpAny _ _ (if n ≥ 2 ^ 63 then _ else _) _ _ _; rw [if_neg (Int.not_le.mpr h1)]
  exact wpAny_bind (wpAny_mkInt (wpAny_pure ⟨_, rfl, q⟩))
def rLen2 (C : Two) (sp : Sp) : List V → Hp → VK → Prop := fun xs H Q => ∃ (a : Addr) (c : Bool) (dx : Addr) (fs : List (Str × V)), xs = [.ref a] ∧ H a = some (.ins (C c) dx fs) ∧ sp [.ref a] H (fun v H' => ∃ n : Int, v = .int n ∧ 0 ≤ n ∧ n < 2 ^ 63 ∧ Q (.int n) H') E0
theorem call_len2 (M : Met2 X.K C "__len__" f) (F : At X k f sp) (hr : Room (k + 1) X.A) : CallR X (.builtin "len") (rLen2 C sp) := by
  intro pins s σ H xs us Q I r h
  obtain ⟨a, c, dx, fs, rfl, ha, q⟩ := h
  rw [Vals.ref1 r]
  obtain ⟨mA, O, _⟩ := ins_get I.hok ha
  obtain ⟨od, J, _⟩ := O.look
  refine len_own I.kIn J (M.me c).at_ (M.me c).fn (wpAny_mono (run_at (vs := [.ref a]) F hr.in1 rfl I (.cons rfl .nil) q) (fun w s' z => ?_) fun _ _ z => z)
  obtain ⟨v', H', I', rv, n, rfl, h0, h1, z⟩ := z
  obtain ⟨t, rfl⟩ := rv
  exact ⟨n, t, rfl, h0, h1, .int n, H', I'.tok _, ⟨_, rfl⟩, z⟩
/-! ### max(xs, default=d), whole numbers -/
def maxDf (d : Int) : List Int → Int
  | [] => d
  | y :: ys => ys.foldl max y
def rMaxDf (K : PySem.W.Frag) : List V → List V → Hp → VK → Prop := fun xs zs H Q => ∃ (a : Addr) (ns : List Int) (d : Int), xs = [.ref a] ∧ zs = [.int d] ∧ SqL K H a (ns.map V.int) ∧ Q (.int (maxDf d ns)) H
theorem reads_ints (h : Heap) : ∀ {ns : List Int} {us : List Value}, Vals (ns.map V.int) us → ∃ as, ReadsAll h us (ns.map PyData.int) as
  | [], _, .nil => ⟨_, .nil⟩
  | n :: ns, _, .cons r rs => by
    obtain ⟨as, k⟩ := reads_ints h rs
    obtain ⟨t, rfl⟩ := r
    exact ⟨_, .cons (.int n t) k⟩
theorem alike_ints (ns : List Int) : PySem.W.AlikeAll (ns.map PyData.int) := by
  refine ⟨fun x hx y hy => ?_, fun x hx => ?_⟩
  · obtain ⟨i, _, rfl⟩ := List.mem_map.mp hx
    obtain ⟨j, _, rfl⟩ := List.mem_map.mp hy
    rfl
  · obtain ⟨i, _, rfl⟩ := List.mem_map.mp hx
    exact fun e => nomatch e
theorem depth_ints : ∀ ns : List Int, PyData.depthAll (ns.map PyData.int) = 0
  | [] => by unfold PyData.depthAll; rfl
  | n :: ns => by
    show PyData.depthAll (.int n :: ns.map PyData.int) = 0
    unfold PyData.depthAll
    rw [depth_ints ns]
    unfold PyData.depth
    rfl
theorem cr_maxDf (hc : X.calm = true) (hu : X.A.units + 1 < cLine) : CallRK X (.builtin "max") ["default"] (rMaxDf X.K) := by
  intro pins s σ H xs zs us ws Q I r rz h
  obtain ⟨a, ns, d, rfl, rfl, hs, q⟩ := h
  obtain ⟨its, rv, hl, _⟩ := I.list hs
  rw [Vals.ref1 r]
  obtain ⟨u, rfl, t, rfl⟩ := rz.one
  obtain ⟨as, hr⟩ := reads_ints s.heap rv
  refine PySem.W.max_list_default (I.ok.hd hc) hl.isList (xs := ns.map PyData.int) (by simpa using hr) (alike_ints ns) (by rw [depth_ints]; omega) (fun e h' tk hk => ?_) fun y ys i v h' tk bs e hi rd hk => ?_
  · have e0 : ns = [] := List.map_eq_nil_iff.mp e
    subst e0
    exact ⟨.int d, H, I.kept hk, ⟨t, rfl⟩, q⟩
  · cases ns with
    | nil => cases e
    | cons n ns =>
      injection e with e1 e2
      subst e1 e2
      rw [PySem.W.maxD_ints] at rd
      cases rd with
      | int _ t' => exact ⟨.int _, H, I.kept hk, ⟨t', rfl⟩, q⟩
end
/-! ### an own class made by keywords alone -/
structure MakK (P : Program) (w : World) (K : PySem.W.Frag) (mg : Str → Option Value) (base : Heap) (k : Nat) (x : Str) (C : Addr) (ks : List Str) (gV : List V → List V → List V) (sp : Sp) : Prop where
  ex : ∃ (f : Addr) (fd : FuncData) (ps : List Str) (g : List Value → List Value → List Value), Mk K C f ∧ FnOk P w K mg base CX0 k f fd ps sp ∧ mg x = some (.ref C) ∧ KBn K fd ps 1 ks g gV
section
variable {X : Cx} {k j : Nat} {C : Addr} {x : Str} {ks : List Str} {gV : List V → List V → List V} {sp : Sp} {kws : List Keyword} {p pos : Pos} {tk : TA}
theorem pe_mkK (c : MakK X.prog X.w X.K X.mg X.base k x C ks gV sp) (hr : Room j X.A) (hk : k + 1 ≤ j) (hg : Gl X x) (hkw : PK X kws tk) (hall : (backToKw pos (keywordEach kws X.env)).all (·.1.isSome) = true := by rfl)
    (hks : (backToKw pos (keywordEach kws X.env)).filterMap (·.1) = ks := by rfl) (hdb : (x == ("__debug__" : Str)) = false := by decide)
    (hpl : ((backTo pos (starEach [] X.env)).any (·.1) || (backToKw pos (keywordEach kws X.env)).any (·.1.isNone)) = false := by rfl) : PE X (.Call (.Name x p) [] kws pos) (tMakeK C 0 ks.length sp gV E0 tNil tk) := by
  obtain ⟨f, fd, ps, g, M, F, hm, hb⟩ := c.ex
  exact pe_makeK0 M F (hr.mono hk) hg hm hb pass0 hkw hall hks hdb hpl
def g3 {α : Type} (g : α → α → α → α → List α) (us ws : List α) : List α := match us, ws with
  | [a], [b, c, d] => g a b c d
  | _, _ => []
/-- how three keywords bind behind self -/
theorem kbn3 {K : PySem.W.Frag} {x qual : Str} {params : Arguments} {body : List Stmt} {scope : Scope} {f : Addr} {fd : FuncData} {ps ks : List Str} (F : FunD K x qual params body scope [] [] f fd) (g : {α : Type} → α → α → α → α → List α)
    (hrel : ∀ {a b c d : V} {a' b' c' d' : Value}, RelV a a' → RelV b b' → RelV c c' → RelV d d' → Vals (g a b c d) (g a' b' c' d')) (hk : ks.length = 3)
    (h : ∀ (kV doc pm : Value) (an : Option Addr) (cdv ct a b c d : Value), bindArgs (PySem.W.fnOf x qual params body scope .none kV doc pm an cdv ct) ⟨[a], ks.zip [b, c, d]⟩ = pure (ps.zip (g a b c d))) :
    KBn K fd ps 1 ks (g3 g) (g3 g) := by
  obtain ⟨oc, od, dV, kV, doc, pm, an, cdv, ct, osl, rfl, lk, hcd, hD, hK⟩ := F.ex
  rcases hD with ⟨_, rfl⟩ | ⟨e, _⟩
  · refine ⟨fun s us ws X l1 l2 => ?_, fun r1 r2 => ?_⟩
    · rw [hk] at l2
      match us, ws, l1, l2 with
      | [a], [b, c, d], _, _ => exact .of_eq (h kV doc pm an cdv ct a b c d)
    · cases r1 with
      | nil => exact .nil
      | cons ra ras =>
        cases ras with
        | cons _ _ => exact .nil
        | nil =>
          cases r2 with
          | nil => exact .nil
          | cons rb r2 =>
            cases r2 with
            | nil => exact .nil
            | cons rc r2 =>
              cases r2 with
              | nil => exact .nil
              | cons rd r2 =>
                cases r2 with
                | nil => exact hrel ra rb rc rd
                | cons _ _ => exact .nil
  · exact absurd rfl e
end
end NbK

set_option Elab.async false
set_option linter.all false
set_option maxRecDepth 100000
set_option maxHeartbeats 4000000
/-! More that the package's defs promise; keywords; the greatest block. -/
namespace NbL
open PySem PySem.Spec PyProof.Rows L2 Nb NbE NbS NbF NbP NbK
theorem room65 {k : Nat} {A : Around} (r : Room k A) : A.units + 65 < cLine := by have := r.un; omega
theorem room1 {k : Nat} {A : Around} (r : Room k A) : A.units + 1 < cLine := by have := r.un; omega
theorem op_inDK {X : Cx} {K : PySem.W.Frag} (hK : X.K = K) (hu : X.A.units + 65 < cLine) : OpR X (compareOp .In) (rInD K) := hK ▸ op_inD hu
def sp_Log_contains (K : PySem.W.Frag) : Sp := fun vs H Q _ => ∃ p b z ns es x, vs = [.ref p, x] ∧ LogAt K H p b z ns es ∧ ((NotEn K H x ∧ Q (.bl false) H) ∨ ∃ (t : Addr) (e : En), x = .ref t ∧ H t = some (.tup [.str e.1, .int e.2]) ∧ Q (.bl (decide (e ∈ es))) H)
def topB (z : Int) (es : List En) : Int := maxDf (-1) (es.map fun e => e.2 / z)
def sp_Log_last_block (K : PySem.W.Frag) : Sp := fun vs H Q _ => ∃ p b z ns es, vs = [.ref p] ∧ LogAt K H p b z ns es ∧ ∀ H', Same H H' → Q (.int (topB z es)) H'
/-- an entry among entries -/
theorem in_ents {K : PySem.W.Frag} {H : Hp} {t s : Addr} {e : En} {es : List En} {ns : List Str} {Q : VK} (ht : H t = some (.tup [.str e.1, .int e.2])) (hs : EntsAt H s es) (hn : Crew ns) (he : enOk ns e = true) (hw : EnsOk ns es) (q : Q (.bl (decide (e ∈ es))) H) : rInD K (.ref t) (.ref s) H Q := by
  have h1 : SeqAt.shaped (enD e) = true := by
    have k := shaped_ens hn (es := [e]) ⟨by simp, fun x hx => by rw [List.mem_singleton.mp hx]; exact he⟩
    unfold SeqAt.shaped at k ⊢
    rw [Bool.and_eq_true] at k ⊢
    obtain ⟨k1, k2⟩ := k
    have k2 := of_decide_eq_true k2
    refine ⟨?_, decide_eq_true ?_⟩
    · have k1' : (PyData.canLay0 (enD e) && PyData.canLayAll0 []) = true := k1
      exact (Bool.and_eq_true_iff.mp k1').1
    · have dp : PyData.depth (enD e) = 1 := by simp [enD, PyData.depth, PyData.depthAll]
      rw [dp]
      decide
  refine ⟨enD e, es.map enD, .tup (SqT.of ht) (.cons (.str _) (.cons (.int _) .nil)), hs.dp, h1, shaped_ens hn hw, ?_⟩
  have e1 : ((es.map enD).any fun y => PyData.eqv y (enD e)) = decide (e ∈ es) := by
    rw [List.any_map, Bool.eq_iff_iff, List.any_eq_true, decide_eq_true_iff]
    have one : ∀ a : En, PyData.eqv (enD a) (enD e) = decide (a = e) := fun a => by
      have k := eqv_ens [a] [e]
      simpa [PyData.eqvAll] using k
    constructor
    · rintro ⟨a, h1, h2⟩
      have h3 : PyData.eqv (enD a) (enD e) = true := h2
      rw [one, decide_eq_true_iff] at h3
      exact h3 ▸ h1
    · intro h
      exact ⟨e, h, by show PyData.eqv (enD e) (enD e) = true; rw [one]; simp⟩
  rw [e1]
  exact q
theorem logx_put {K : PySem.W.Frag} {H : Hp} {p a ls le : Addr} {b : Bool} {z : Int} {ns : List Str} {es : List En} {xs : List V} {u : HO} (h : LogX K H p b z ns es ls le) (n1 : p ≠ a) (n2 : ls ≠ a) (n3 : le ≠ a) (ha : H a = some (.lst xs)) : LogX K (upd H a u) p b z ns es ls le := by
  obtain ⟨dx, h1, h2, ⟨ts, h3, h4⟩, h5⟩ := h
  exact ⟨dx, upd_keep h1 n1, upd_keep h2 n2, ⟨ts, upd_keep h3 n3, h4.imp fun t xs g => upd_keep g (ne_of g ha (by simp))⟩, h5⟩
theorem logx_same {K : PySem.W.Frag} {H H' : Hp} {p ls le : Addr} {b : Bool} {z : Int} {ns : List Str} {es : List En} (h : LogX K H p b z ns es ls le) (e : Same H H') : LogX K H' p b z ns es ls le := by
  obtain ⟨dx, h1, h2, h3, h5⟩ := h
  exact ⟨dx, e _ _ h1, h2.same e, h3.same e, h5⟩
theorem ne_new {H : Hp} {a l : Addr} {o : HO} (h : H a = none) (h' : H l = some o) : a ≠ l := by
  rintro rfl
  rw [h] at h'
  cases h'
/-! ### the greatest block -/
theorem foldl_max (y : Int) : ∀ (ys : List Int), (ys.foldl max y = y ∨ ys.foldl max y ∈ ys) ∧ y ≤ ys.foldl max y ∧ ∀ x ∈ ys, x ≤ ys.foldl max y
  | [] => ⟨.inl rfl, Int.le_refl _, fun _ h => nomatch h⟩
  | x :: ys => by
    obtain ⟨h1, h2, h3⟩ := foldl_max (max y x) ys
    show (ys.foldl max (max y x) = y ∨ ys.foldl max (max y x) ∈ x :: ys) ∧ y ≤ ys.foldl max (max y x) ∧ ∀ w ∈ x :: ys, w ≤ ys.foldl max (max y x)
    refine ⟨?_, by omega, fun w hw => ?_⟩
    · rcases h1 with h1 | h1
      · by_cases g : y ≤ x
        · exact .inr (by rw [h1, Int.max_eq_right g]; exact List.mem_cons_self ..)
        · exact .inl (by rw [h1, Int.max_eq_left (by omega)])
      · exact .inr (List.mem_cons_of_mem _ h1)
    · rcases List.mem_cons.mp hw with rfl | h
      · omega
      · exact h3 w h
theorem maxDf_spec {d m : Int} : ∀ {ys : List Int}, (∀ y ∈ ys, d ≤ y) → m ∈ d :: ys → (∀ y ∈ d :: ys, y ≤ m) → m = maxDf d ys
  | [], _, h, _ => List.mem_singleton.mp h
  | y :: ys, hd, h, hm => by
    obtain ⟨h1, h2, h3⟩ := foldl_max y ys
    show m = ys.foldl max y
    have g1 : ys.foldl max y ≤ m := by
      rcases h1 with e | e
      · rw [e]; exact hm y (by simp)
      · exact hm _ (by simp [e])
    have g2 : m ≤ ys.foldl max y := by
      rcases List.mem_cons.mp h with rfl | h
      · exact Int.le_trans (hd y (by simp)) h2
      · rcases List.mem_cons.mp h with rfl | h
        · exact h2
        · exact h3 m h
    omega
theorem topB_ge {z : Int} {ns : List Str} {es : List En} (hz : 1 ≤ z) (hw : EnsOk ns es) : ∀ y ∈ es.map (fun e => e.2 / z), (-1 : Int) ≤ y := fun y hy => by
  obtain ⟨e, he, rfl⟩ := List.mem_map.mp hy
  have k := hw.ok e he
  unfold enOk at k
  simp only [Bool.and_eq_true, decide_eq_true_eq] at k
  have := Int.ediv_nonneg k.2 (show 0 ≤ z by omega)
  omega
/-- [size, servers, entries, kind] as data -/
def logD4 (b : Bool) (z : Int) (ns : List Str) (es : List En) : PyData := .list [.int z, .list (ns.map PyData.str), .list (es.map enD), .str (kindS b)]
theorem shw_log4 {b : Bool} {z : Int} {ns : List Str} {es : List En} (hz : SizeOk z) (h : Crew ns) (g : EnsOk ns es) (hl : ∀ e ∈ es, e.2 < 10 ^ 60) : (logD4 b z ns es).showable = true ∧ (logD4 b z ns es).hasDict = false ∧ (logD4 b z ns es).depth ≤ 60 ∧ (logD4 b z ns es).shown.length ≤ sizeLine := by
  have k := shw_ens h g hl
  have k2 := shw_crew h
  have k1 : Shw 201 0 (.int z) := shw_int (by have := hz.1; omega) (by have := hz.2; omega)
  have k0 : Shw 8 0 (.str (kindS b)) := shw_name (by cases b <;> decide +kernel)
  have w : (logD4 b z ns es).weight ≤ 200000 := by
    unfold logD4
    have a := k.wt
    have b' := k2.wt
    have c := k1.wt
    have d := k0.wt
    simp only [PyData.weight, PyData.weightAll] at a b' c d ⊢
    omega
  have s : Shw (4 * (81000 + 1)) 3 (logD4 b z ns es) := shw_list (W := 81000) (D := 2) (n := 4) (fun d hd => by
    rcases List.mem_cons.mp hd with rfl | hd
    · exact k1.mono (by decide) (by decide)
    · rcases List.mem_cons.mp hd with rfl | hd
      · exact k2.mono (by decide) (by decide)
      · rcases List.mem_cons.mp hd with rfl | hd
        · exact k
        · cases List.mem_singleton.mp hd
          exact k0.mono (by decide) (by decide)) (Nat.le_refl _)
  exact ⟨s.sh, s.nd, Nat.le_trans s.dp (by decide), Shw.fits (⟨s.sh, s.nd, s.lv, w, s.dp⟩ : Shw 200000 3 _) (Nat.le_refl _)⟩
theorem mem_cut {xs : List V} {lo hi : Option Int} {v : V} (h : v ∈ cutV xs lo hi) : v ∈ xs := by
  unfold cutV at h
  exact List.mem_of_mem_drop (List.mem_of_mem_take h)
theorem len_cut (xs : List V) (lo hi : Option Int) : (cutV xs lo hi).length ≤ xs.length := by
  unfold cutV
  rw [List.length_take, List.length_drop]
  omega
/-- nothing that an entry can be: no tuple of a text and a whole number, or one of no name, or below 0 -/
def NotIn2 (K : PySem.W.Frag) (ns : List Str) (H : Hp) (v : V) : Prop := NotEn K H v ∨ ∃ (t : Addr) (e : En), v = .ref t ∧ H t = some (.tup [.str e.1, .int e.2]) ∧ enOk ns e = false
theorem knd_put {K : PySem.W.Frag} {H : Hp} {od : Addr} {vs ws : List V} {x : V} {d : Kd} (ho : H od = some (.lst vs)) (k : Knd K H x d) : Knd K (upd H od (.lst ws)) x d := by
  cases k with
  | non => exact .non
  | bl b => exact .bl b
  | int i => exact .int i
  | str x => exact .str x
  | @lst a xs h =>
    by_cases e : a = od
    · subst e
      exact .lst upd_same
    · exact .lst (upd_keep h e)
  | tup h => exact .tup (upd_keep h (ne_of h ho (by simp)))
  | dct h => exact .dct (upd_keep h (ne_of h ho (by simp)))
  | log h => exact .log (upd_keep h (ne_of h ho (by simp)))
theorem notIn_put {K : PySem.W.Frag} {ns : List Str} {H : Hp} {od : Addr} {vs ws : List V} {v : V} (ho : H od = some (.lst vs)) (k : NotIn2 K ns H v) : NotIn2 K ns (upd H od (.lst ws)) v := by
  rcases k with ⟨d, k, h⟩ | ⟨t, e, rfl, ht, he⟩
  · refine .inl ⟨d, knd_put ho k, ?_⟩
    rcases h with h | ⟨t, xs, rfl, ht, h⟩
    · exact .inl h
    · refine .inr ⟨t, xs, rfl, upd_keep ht (ne_of ht ho (by simp)), ?_⟩
      rcases h with h | ⟨v1, v2, d1, d2, e, k1, k2, h⟩
      · exact .inl h
      · exact .inr ⟨v1, v2, d1, d2, e, knd_put ho k1, knd_put ho k2, h⟩
  · exact .inr ⟨t, e, rfl, upd_keep ht (ne_of ht ho (by simp)), he⟩
theorem notIn_same {K : PySem.W.Frag} {ns : List Str} {H H' : Hp} {v : V} (e : Same H H') (k : NotIn2 K ns H v) : NotIn2 K ns H' v := by
  rcases k with ⟨d, k, h⟩ | ⟨t, en, rfl, ht, he⟩
  · refine .inl ⟨d, k.same e, ?_⟩
    rcases h with h | ⟨t, xs, rfl, ht, h⟩
    · exact .inl h
    · refine .inr ⟨t, xs, rfl, e _ _ ht, ?_⟩
      rcases h with h | ⟨v1, v2, d1, d2, e', k1, k2, h⟩
      · exact .inl h
      · exact .inr ⟨v1, v2, d1, d2, e', k1.same e, k2.same e, h⟩
  · exact .inr ⟨t, en, rfl, e _ _ ht, he⟩
theorem notIn_len {K : PySem.W.Frag} {ns : List Str} {H : Hp} {t : Addr} {xs : List V} (h : H t = some (.tup xs)) (n : xs.length ≠ 2) : NotIn2 K ns H (.ref t) := .inl ⟨_, .tup h, .inr ⟨t, xs, rfl, h, .inl n⟩⟩
theorem notIn_two {K : PySem.W.Frag} {ns : List Str} {H : Hp} {t : Addr} {v1 v2 : V} {d1 d2 : Kd} (h : H t = some (.tup [v1, v2])) (k1 : Knd K H v1 d1) (k2 : Knd K H v2 d2) (n : d1 ≠ .str ∨ d2 ≠ .int) : NotIn2 K ns H (.ref t) := .inl ⟨_, .tup h, .inr ⟨t, _, rfl, h, .inr ⟨v1, v2, d1, d2, rfl, k1, k2, n⟩⟩⟩
theorem notIn_kd {K : PySem.W.Frag} {ns : List Str} {H : Hp} {v : V} {d : Kd} (k : Knd K H v d) (n : d ≠ .tup) : NotIn2 K ns H v := .inl ⟨d, k, .inl n⟩
theorem in_no {K : PySem.W.Frag} {H : Hp} {p : Addr} {v : V} {b : Bool} {z : Int} {ns : List Str} {es : List En} {Q : VK} (h : LogAt K H p b z ns es) (k : NotIn2 K ns H v) (q : Q (.bl false) H) : rIn2 K (C2 K) (sp_Log_contains K) v (.ref p) H Q := by
  obtain ⟨dx, ls, le, h1, _, _, hw⟩ := id h
  refine ⟨p, b, dx, _, rfl, h1, p, b, z, ns, es, v, rfl, h, ?_⟩
  rcases k with k | ⟨t, e, rfl, ht, he⟩
  · exact .inl ⟨k, _, rfl, q⟩
  · refine .inr ⟨t, e, rfl, ht, _, rfl, ?_⟩
    rw [decide_eq_false (fun g => by rw [hw.en.ok e g] at he; cases he)]
    exact q
theorem in_yes {K : PySem.W.Frag} {H : Hp} {p t : Addr} {b : Bool} {z : Int} {ns : List Str} {es : List En} {e : En} {Q : VK} (h : LogAt K H p b z ns es) (ht : H t = some (.tup [.str e.1, .int e.2])) (q : Q (.bl (decide (e ∈ es))) H) : rIn2 K (C2 K) (sp_Log_contains K) (.ref t) (.ref p) H Q := by
  obtain ⟨dx, ls, le, h1, _⟩ := id h
  exact ⟨p, b, dx, _, rfl, h1, p, b, z, ns, es, .ref t, rfl, h, .inr ⟨t, e, rfl, ht, _, rfl, q⟩⟩
end NbL

set_option Elab.async false
set_option linter.all false
set_option maxRecDepth 100000
set_option maxHeartbeats 4000000
/-! a + b by an own __add__; defs that raise. -/
namespace NbX
open PySem PySem.Spec PyProof.Rows L2 NbE
section
variable {prog : Program} {w : World} {A : Around} {E : Value → Shared → Prop} {s : Shared} {K : PySem.W.Frag} {x C f : Addr} {ox : Obj} {od : Option Obj} {b : Value}
open PySem.W in
/-- both sides of one class: its own method answers -/
theorem bin_own {op : Operator} {Q : Value → Shared → Prop} (X : K.In s.heap) (I : InstAt s.heap x ox C od) (hb : Looks (model prog w) s.heap (typeOf b) (.ref C)) (hc : selfFirst K C = true) (hs : findIn K (.ref C) (PySem.dunder op.info.2) = some (some (.ref f)))
    (hf : isFn K (.ref f) = true) (h : wpAny (model prog w) A (call (.ref f) [.ref x, b]) (fun v s' => v ≠ .notImplemented ∧ Q v s') E s) : wpAny (model prog w) A (binaryOp op (.ref x) b) Q E s := by
  obtain ⟨cd, hcd, hm⟩ := any_some hc
  have hr : ∃ rest, cd.mro = .ref C :: rest := by
    cases q : cd.mro with
    | nil => rw [q] at hm; cases hm
    | cons a r =>
      rw [q] at hm
      exact ⟨r, congrArg (· :: r) (Option.some.inj (beq_iff_eq.mp hm))⟩
  obtain ⟨rest, hr⟩ := hr
  unfold binaryOp; refine wpAny_holding (wpAny_bind ?_); unfold binaryOp1
  refine wpAny_bind (I.type.here (wpAny_bind (hb.here (wpAny_bind ((fills_K X hcd hr hs).here ?_))))); simp only [beq_self_eq_true, if_true]
  refine wpAny_bind (wpAny_pure ?_); simp only [Bool.and_false, Bool.false_eq_true, if_false, Bool.false_and]
  refine wpAny_bind (wpAny_pure ?_); simp only [Bool.false_eq_true, if_false]
  refine wpAny_bind (m := tryMethod (.ref x) _ b) ?_; unfold tryMethod
  refine wpAny_bind (special_fn X I hs (beq_iff_eq.mp hf) (wpAny_mono h (fun v s' z => ?_) fun _ _ e => e)); obtain ⟨n, q⟩ := z
  cases v <;> first | exact absurd rfl n | exact wpAny_pure (wpAny_pure (wpAny_pure q))
end
section
variable {X : Cx} {k j : Nat} {f : Addr} {sp : Sp} {C : Two} {W : WX} {a b : Expr} {ta tb : TE} {pos : Pos}
/-- a + b, both of one of the two classes -/
def rAdd2 (C : Two) (sp : Sp) (E : XK) : R2 := fun x y H Q => ∃ (a b : Addr) (c : Bool) (dx dy : Addr) (fs gs : List (Str × V)), x = .ref a ∧ y = .ref b ∧ H a = some (.ins (C c) dx fs) ∧ H b = some (.ins (C c) dy gs) ∧ sp [x, y] H (fun v H' => ∃ p, v = .ref p ∧ Q v H') E
structure Add2 (K : PySem.W.Frag) (C : Two) (f : Addr) : Prop where
  me : Met2 K C "__add__" f
  first : ∀ c, PySem.W.selfFirst K (C c) = true
theorem op_add2 (M : Add2 X.K C f) (F : At X k f sp) (hr : Room k X.A) : OpR X (binaryOp .Add) (rAdd2 C sp E0) := by
  intro pins s σ H x y v u Q I rx ry h
  obtain ⟨a, b, c, dx, dy, fs, gs, rfl, rfl, ha, hb, q⟩ := h
  cases rx
  cases ry
  obtain ⟨mA, O, _⟩ := ins_get I.hok ha
  obtain ⟨od, J, _⟩ := O.look
  obtain ⟨mB, O', _⟩ := ins_get I.hok hb
  obtain ⟨od', J', _⟩ := O'.look
  refine bin_own I.kIn J J'.type (M.first c) (M.me.me c).at_ (M.me.me c).fn (wpAny_mono (run_at (vs := [.ref a, .ref b]) F hr rfl I (.cons rfl (.cons rfl .nil)) q) (fun w s' z => ?_) fun _ _ z => z)
  obtain ⟨v', H', I', rv, p, rfl, z⟩ := z
  cases rv
  exact ⟨(fun e => nomatch e), .ref p, H', I', rfl, z⟩
/-- a def that may raise, by its address -/
structure CalX (P : Program) (w : World) (K : PySem.W.Frag) (mg : Str → Option Value) (base : Heap) (k : Nat) (f : Addr) (sp : Sp) : Prop where
  ex : ∃ (fd : FuncData) (ps : List Str), FnOk P w K mg base (L2.CX P w) k f fd ps sp ∧ PySem.W.keepIn K (.ref f) = true ∧ Binds K fd ps []
def tAdd2S (C : Two) (sp : Sp) (W : WX) (ta tb : TE) : TE := fun σ H Q => tOp (rAdd2 C sp (WE W σ)) ta tb σ H Q
theorem pe_add2S (M : Add2 X.K C f) (c : CalX X.prog X.w X.K X.mg X.base k f sp) (hr : Room j X.A) (hk : k ≤ j) (tk : Takes X W) (ha : PE X a ta) (hb : PE X b tb) : PE X (.BinOp a .Add b pos) (tAdd2S C sp W ta tb) := by
  obtain ⟨fd, ps, F, kp, bi⟩ := c.ex
  refine ⟨fun pins s σ H Q I h => wpAny_BinOp (binT ha hb I h fun v u s2 x y H2 I2 rx ry q => ?_)⟩
  obtain ⟨a, b, c, dx, dy, fs, gs, rfl, rfl, ha, hb, q⟩ := q
  cases rx
  cases ry
  obtain ⟨mA, O, _⟩ := ins_get I2.hok ha
  obtain ⟨od, J, _⟩ := O.look
  obtain ⟨mB, O', _⟩ := ins_get I2.hok hb
  obtain ⟨od', J', _⟩ := O'.look
  refine bin_own I2.kIn J J'.type (M.first c) (M.me.me c).at_ (M.me.me c).fn (wpAny_mono (run_fnS (vs := [.ref a, .ref b]) F (hr.mono hk) bi (passAt tk σ) I2 (.cons rfl (.cons rfl .nil)) q) (fun w s' z => ?_) fun _ _ z => z)
  obtain ⟨v', H', I', rv, p, rfl, z⟩ := z
  cases rv
  exact ⟨(fun e => nomatch e), .ref p, H', I', rfl, z⟩
def tMeth2S (C : Two) (m : Str) (sp : Sp) (W : WX) (ta : TE) (t : TA) : TE := fun σ H Q => ta σ H fun x H1 => ∃ (a : Addr) (c : Bool) (dx : Addr) (fs : List (Str × V)), x = .ref a ∧ H1 a = some (.ins (C c) dx fs) ∧ fs.lookup m = none ∧ t σ H1 fun vs H2 => sp (x :: vs) H2 Q (WE W σ)
theorem pe_mt2S {m : Str} {o e : Expr} {es : List Expr} {t : TA} {apos : Pos} {pl : Sem Bool} (M : Met2 X.K C m f) (c : CalX X.prog X.w X.K X.mg X.base k f sp) (hr : Room j X.A) (hk : k ≤ j) (tk : Takes X W) (he : PE X o ta) (ha : PA X (e :: es) t) (hst : starEach (e :: es) X.env = (false, eval e X.env) :: starEach es X.env := by rfl)
    (hpl : (backTo pos (starEach es X.env)).any (·.1) = false := by rfl)
    (ht : eval (.Call (.Attribute o m apos) (e :: es) [] pos) X.env = (do
      let ov ← eval o X.env
      standAt apos.atName
      let (f, first) ← holding [ov] (getMethod ov m pl)
      callWith pos f first (backTo pos (starEach (e :: es) X.env)) (backToKw pos (keywordEach [] X.env))) := by rfl) : PE X (.Call (.Attribute o m apos) (e :: es) [] pos) (tMeth2S C m sp W ta t) := by
  obtain ⟨fd, ps, F, kp, bi⟩ := c.ex
  refine ⟨fun pins s σ H Q I h => PySem.W.methodCall_KW (pl := pl) (thn (he.run pins s σ H _ I h) fun u s1 z => ?_) ht⟩
  obtain ⟨x, H1, I1, rx, a, c, dx, fs, rfl, ea, l, q⟩ := z
  cases rx
  refine getmeth_ok I1 ea (M.cl c) (M.me c) l (PySem.W.callWith_K (first := [.ref a]) (h₀ := X.base) I1.ok.mod.kin (M.me c).kp (thn (ha.run pos pins s1 σ H1 _ I1 q) fun us s2 z => ?_) hst hpl)
  obtain ⟨vs, H2, I2, r, q2⟩ := z
  exact ⟨I2.kIn, run_fnS (vs := .ref a :: vs) F (hr.mono hk) bi (passAt tk σ) I2 (.cons rfl r) q2⟩
end
/-! ### a method called by keywords alone -/
structure CalK (P : Program) (w : World) (K : PySem.W.Frag) (mg : Str → Option Value) (base : Heap) (k : Nat) (f : Addr) (ks : List Str) (gV : List V → List V → List V) (sp : Sp) : Prop where
  ex : ∃ (fd : FuncData) (ps : List Str) (g : List Value → List Value → List Value), FnOk P w K mg base CX0 k f fd ps sp ∧ PySem.W.keepIn K (.ref f) = true ∧ KBn K fd ps 1 ks g gV
section
variable {X : Cx} {k j : Nat} {f : Addr} {sp : Sp} {C : Two} {ks : List Str} {gV : List V → List V → List V} {m : Str} {o : Expr} {ta : TE} {tk : TA} {kws : List Keyword} {apos pos : Pos} {pl : Sem Bool}
def tMeth2K (C : Two) (m : Str) (n : Nat) (sp : Sp) (gV : List V → List V → List V) (ta : TE) (tk : TA) : TE := fun σ H Q => ta σ H fun x H1 => ∃ (a : Addr) (c : Bool) (dx : Addr) (fs : List (Str × V)), x = .ref a ∧ H1 a = some (.ins (C c) dx fs) ∧ fs.lookup m = none ∧
  tk σ H1 fun zs H2 => zs.length = n ∧ sp (gV [x] zs) H2 Q E0
theorem pe_mt2K (M : Met2 X.K C m f) (c : CalK X.prog X.w X.K X.mg X.base k f ks gV sp) (hr : Room j X.A) (hk : k ≤ j) (he : PE X o ta) (hkw : PK X kws tk) (hall : (backToKw pos (keywordEach kws X.env)).all (·.1.isSome) = true := by rfl)
    (hks : (backToKw pos (keywordEach kws X.env)).filterMap (·.1) = ks := by rfl) (hpl : ((backTo pos (starEach [] X.env)).any (·.1) || (backToKw pos (keywordEach kws X.env)).any (·.1.isNone)) = false := by rfl)
    (ht : eval (.Call (.Attribute o m apos) [] kws pos) X.env = (do
      let ov ← eval o X.env
      standAt apos.atName
      let (f, first) ← holding [ov] (getMethod ov m pl)
      callWith pos f first (backTo pos (starEach [] X.env)) (backToKw pos (keywordEach kws X.env))) := by rfl) : PE X (.Call (.Attribute o m apos) [] kws pos) (tMeth2K C m ks.length sp gV ta tk) := by
  obtain ⟨fd, ps, g, F, kp, hb⟩ := c.ex
  refine ⟨fun pins s σ H Q I h => PySem.W.methodCall_KW (pl := pl) (thn (he.run pins s σ H _ I h) fun u s1 z => ?_) ht⟩
  obtain ⟨x, H1, I1, rx, a, c, dx, fs, rfl, ea, l, q⟩ := z
  cases rx
  refine getmeth_ok I1 ea (M.cl c) (M.me c) l (PySem.W.callWith_KW0 (first := [.ref a]) (h₀ := X.base) I1.ok.mod.kin (M.me c).kp hall ?_ hpl)
  refine thn (hkw.run pos pins s1 σ H1 _ I1 q) fun ws s2 z => ?_
  obtain ⟨zs, H2, I2, rz, l2, q2⟩ := z
  refine ⟨I2.kIn, ?_⟩
  rw [hks, List.append_nil]
  have ra : Vals [V.ref a] [Value.ref a] := .cons rfl .nil
  refine wpAny_call (codeAny_mono (F.run X.A X.stack s2 H2 ⟨[.ref a], ks.zip ws⟩ (g [.ref a] ws) (gV [.ref a] zs) Q E0 (hr.mono hk) I2.env0 (hb.to s2 [.ref a] ws I2.kIn rfl (by rw [← rz.length]; exact l2)) (hb.rel ra rz) q2) fun r s' hq => ?_)
  cases r with
  | error e => exact hq.elim
  | ok fl => cases fl with
    | ret u => exact I2.after hq
    | _ => exact hq.elim
def g1 {α : Type} (g : α → α → List α) (us ws : List α) : List α := match us, ws with
  | [a], [b] => g a b
  | _, _ => []
def g2 {α : Type} (g : α → α → α → List α) (us ws : List α) : List α := match us, ws with
  | [a], [b, c] => g a b c
  | _, _ => []
theorem kbn1 {K : PySem.W.Frag} {x qual : Str} {params : Arguments} {body : List Stmt} {scope : Scope} {f : Addr} {fd : FuncData} {ps ks : List Str} (F : FunD K x qual params body scope [] [] f fd) (g : {α : Type} → α → α → List α)
    (hrel : ∀ {a b : V} {a' b' : Value}, RelV a a' → RelV b b' → Vals (g a b) (g a' b')) (hk : ks.length = 1)
    (h : ∀ (kV doc pm : Value) (an : Option Addr) (cdv ct a b : Value), bindArgs (PySem.W.fnOf x qual params body scope .none kV doc pm an cdv ct) ⟨[a], ks.zip [b]⟩ = pure (ps.zip (g a b))) : KBn K fd ps 1 ks (g1 g) (g1 g) := by
  obtain ⟨oc, od, dV, kV, doc, pm, an, cdv, ct, osl, rfl, lk, hcd, hD, hK⟩ := F.ex
  rcases hD with ⟨_, rfl⟩ | ⟨e, _⟩
  · refine ⟨fun s us ws X l1 l2 => ?_, fun r1 r2 => ?_⟩
    · rw [hk] at l2
      match us, ws, l1, l2 with
      | [a], [b], _, _ => exact .of_eq (h kV doc pm an cdv ct a b)
    · cases r1 with
      | nil => exact .nil
      | cons ra ras =>
        cases ras with
        | cons _ _ => exact .nil
        | nil =>
          cases r2 with
          | nil => exact .nil
          | cons rb r2 =>
            cases r2 with
            | nil => exact hrel ra rb
            | cons _ _ => exact .nil
  · exact absurd rfl e
theorem kbn2 {K : PySem.W.Frag} {x qual : Str} {params : Arguments} {body : List Stmt} {scope : Scope} {f : Addr} {fd : FuncData} {ps ks : List Str} (F : FunD K x qual params body scope [] [] f fd) (g : {α : Type} → α → α → α → List α)
    (hrel : ∀ {a b c : V} {a' b' c' : Value}, RelV a a' → RelV b b' → RelV c c' → Vals (g a b c) (g a' b' c')) (hk : ks.length = 2)
    (h : ∀ (kV doc pm : Value) (an : Option Addr) (cdv ct a b c : Value), bindArgs (PySem.W.fnOf x qual params body scope .none kV doc pm an cdv ct) ⟨[a], ks.zip [b, c]⟩ = pure (ps.zip (g a b c))) : KBn K fd ps 1 ks (g2 g) (g2 g) := by
  obtain ⟨oc, od, dV, kV, doc, pm, an, cdv, ct, osl, rfl, lk, hcd, hD, hK⟩ := F.ex
  rcases hD with ⟨_, rfl⟩ | ⟨e, _⟩
  · refine ⟨fun s us ws X l1 l2 => ?_, fun r1 r2 => ?_⟩
    · rw [hk] at l2
      match us, ws, l1, l2 with
      | [a], [b, c], _, _ => exact .of_eq (h kV doc pm an cdv ct a b c)
    · cases r1 with
      | nil => exact .nil
      | cons ra ras =>
        cases ras with
        | cons _ _ => exact .nil
        | nil =>
          cases r2 with
          | nil => exact .nil
          | cons rb r2 =>
            cases r2 with
            | nil => exact .nil
            | cons rc r2 =>
              cases r2 with
              | nil => exact hrel ra rb rc
              | cons _ _ => exact .nil
  · exact absurd rfl e
end
/-! ### exception classes -/
structure ExcF (K : PySem.W.Frag) (mg : Str → Option Value) (x : Str) : Prop where
  ex : PySem.W.excIn K (He.ga K x) [.type "ValueError", .type "Exception", .type "BaseException", .type "object"] "ValueError.__new__" = true
  kp : PySem.W.keepIn K (.ref (He.ga K x)) = true
  sb : PySem.W.subIn K (.ref (He.ga K x)) (.type "BaseException") = some true
  ty : PySem.W.typeIn K (.ref (He.ga K x)) = some (.type "type")
  gl : mg x = some (.ref (He.ga K x))
  me : PySem.W.exmOne K (.ref (He.ga K x)) (.ref (He.ga K x)) = some true
/-! ### what raises -/
open NbS NbL in
def sp_Log_add (K : PySem.W.Frag) : Sp := fun vs H Q _ => ∃ p b z ns es p' es', vs = [.ref p, .ref p'] ∧ LogAt K H p b z ns es ∧ LogAt K H p' b z ns es' ∧ es.length + es'.length ≤ 200 ∧ NewLog K H Q b z ns (es ++ es')
open NbS NbL in
/-- too many entries together: InvalidLog -/
def spx_Log_add (K : PySem.W.Frag) : Sp := fun vs H _ E => ∃ p b z ns es p' es', vs = [.ref p, .ref p'] ∧ LogAt K H p b z ns es ∧ LogAt K H p' b z ns es' ∧ 200 < es.length + es'.length ∧ ∀ H', Same H H' → E (.ref (He.ga K "InvalidLog")) none H'
open NbS NbL in
def spx_Log_with_entry (K : PySem.W.Frag) : Sp := fun vs H _ E => ∃ p b z ns es, ∃ e : En, vs = [.ref p, .str e.1, .int e.2] ∧ LogAt K H p b z ns es ∧ enOk ns e = true ∧ 200 ≤ es.length ∧ ∀ H', Same H H' → E (.ref (He.ga K "InvalidLog")) none H'
open NbS NbL NbP
/-- [kind, size, servers, entries, how many] as data -/
def logD5 (b : Bool) (z : Int) (ns : List Str) (es : List En) : PyData := .list [.str (kindS b), .int z, .list (ns.map PyData.str), .list (es.map enD), .int (es.length : Int)]
theorem shw_log5 {b : Bool} {z : Int} {ns : List Str} {es : List En} (hz : SizeOk z) (h : Crew ns) (g : EnsOk ns es) (hl : ∀ e ∈ es, e.2 < 10 ^ 60) : (logD5 b z ns es).showable = true ∧ (logD5 b z ns es).hasDict = false ∧ (logD5 b z ns es).depth ≤ 60 ∧ (logD5 b z ns es).shown.length ≤ sizeLine := by
  have k := shw_ens h g hl
  have k2 := shw_crew h
  have k1 : Shw 201 0 (.int z) := shw_int (by have := hz.1; omega) (by have := hz.2; omega)
  have k0 : Shw 8 0 (.str (kindS b)) := shw_name (by cases b <;> decide +kernel)
  have k5 : Shw 201 0 (.int (es.length : Int)) := shw_int (by omega) (by have := g.few; omega)
  have w : (logD5 b z ns es).weight ≤ 200000 := by
    unfold logD5
    have a := k.wt
    have b' := k2.wt
    have c := k1.wt
    have d := k0.wt
    have e := k5.wt
    simp only [PyData.weight, PyData.weightAll] at a b' c d e ⊢
    omega
  have s : Shw (5 * (81000 + 1)) 3 (logD5 b z ns es) := shw_list (W := 81000) (D := 2) (n := 5) (fun d hd => by
    rcases List.mem_cons.mp hd with rfl | hd
    · exact k0.mono (by decide) (by decide)
    · rcases List.mem_cons.mp hd with rfl | hd
      · exact k1.mono (by decide) (by decide)
      · rcases List.mem_cons.mp hd with rfl | hd
        · exact k2.mono (by decide) (by decide)
        · rcases List.mem_cons.mp hd with rfl | hd
          · exact k
          · cases List.mem_singleton.mp hd
            exact k5.mono (by decide) (by decide)) (Nat.le_refl _)
  exact ⟨s.sh, s.nd, Nat.le_trans s.dp (by decide), Shw.fits (⟨s.sh, s.nd, s.lv, w, s.dp⟩ : Shw 200000 3 _) (Nat.le_refl _)⟩
theorem add_logs {K : PySem.W.Frag} {H : Hp} {p p' : Addr} {b : Bool} {z : Int} {ns : List Str} {es es' : List En} {Q : VK} (h : LogAt K H p b z ns es) (h' : LogAt K H p' b z ns es') (hl : es.length + es'.length ≤ 200)
    (q : NewLog K H Q b z ns (es ++ es')) : rAdd2 (C2 K) (sp_Log_add K) E0 (.ref p) (.ref p') H Q := by
  obtain ⟨dx, ls, le, h1, _⟩ := id h
  obtain ⟨dx', ls', le', h1', _⟩ := id h'
  exact ⟨p, p', b, dx, dx', _, _, rfl, rfl, h1, h1', p, b, z, ns, es, p', es', rfl, h, h', hl, fun w H' hw e hl' => ⟨w, rfl, q w H' hw e hl'⟩⟩
theorem wf_sub {z : Int} {ns : List Str} {es fs : List En} (h : WF z ns es) (hl : fs.length ≤ 200) (hm : ∀ e ∈ fs, e ∈ es) : WF z ns fs := ⟨h.sz, h.cr, ⟨hl, fun e he => h.en.ok e (hm e he)⟩⟩
open NbF
/-! ### pieces of a list of entries -/
theorem sl_to {K : PySem.W.Frag} {H : Hp} {s : Addr} {es : List En} {k : Nat} {Q : VK} (h : EntsAt H s es) (q : ∀ l H', H l = none → Same H H' → EntsAt H' l (es.take k) → Q (.ref l) H') : rSlL K (.ref s) none (some (k : Int)) H Q := by
  obtain ⟨ts, h1, h2⟩ := h
  refine ⟨s, _, rfl, SqL.of h1, fun p hp => ?_⟩
  have e := Nb.Same.new (o := .lst (cutV (ts.map V.ref) none (some (k : Int)))) (Same.refl H) hp
  exact q p _ hp e ⟨ts.take k, by rw [upd_same, cut_to', List.map_take], (h2.take k).imp fun t xs g => e _ _ g⟩
theorem sl_from {K : PySem.W.Frag} {H : Hp} {s : Addr} {es : List En} {k : Nat} {Q : VK} (h : EntsAt H s es) (q : ∀ l H', H l = none → Same H H' → EntsAt H' l (es.drop k) → Q (.ref l) H') : rSlL K (.ref s) (some (k : Int)) none H Q := by
  obtain ⟨ts, h1, h2⟩ := h
  refine ⟨s, _, rfl, SqL.of h1, fun p hp => ?_⟩
  have e := Nb.Same.new (o := .lst (cutV (ts.map V.ref) (some (k : Int)) none)) (Same.refl H) hp
  exact q p _ hp e ⟨ts.drop k, by rw [upd_same, cut_from, List.map_drop], (h2.drop k).imp fun t xs g => e _ _ g⟩
theorem cut_both (xs : List V) (a b : Nat) : cutV xs (some (a : Int)) (some ((a : Int) + (b : Int))) = (xs.drop a).take b := by
  have e : (a : Int) + (b : Int) = ((a + b : Nat) : Int) := by omega
  rw [e]
  unfold cutV
  rw [HT.sIx_nat, HT.sIx_nat]
  by_cases h : a ≤ xs.length
  · rw [Nat.min_eq_left h]
    by_cases g : a + b ≤ xs.length
    · rw [Nat.min_eq_left g, Nat.add_sub_cancel_left]
    · rw [Nat.min_eq_right (by omega), List.take_of_length_le (by rw [List.length_drop]; exact Nat.le_refl _), List.take_of_length_le (by rw [List.length_drop]; omega)]
  · rw [List.drop_of_length_le (show xs.length ≤ min a xs.length by omega), List.drop_of_length_le (show xs.length ≤ a by omega), List.take_nil, List.take_nil]
theorem sl_both {K : PySem.W.Frag} {H : Hp} {s : Addr} {es : List En} {k n : Nat} {Q : VK} (h : EntsAt H s es) (q : ∀ l H', H l = none → Same H H' → EntsAt H' l ((es.drop k).take n) → Q (.ref l) H') : rSlL K (.ref s) (some (k : Int)) (some ((k : Int) + (n : Int))) H Q := by
  obtain ⟨ts, h1, h2⟩ := h
  refine ⟨s, _, rfl, SqL.of h1, fun p hp => ?_⟩
  have e := Nb.Same.new (o := .lst (cutV (ts.map V.ref) (some (k : Int)) (some ((k : Int) + (n : Int))))) (Same.refl H) hp
  exact q p _ hp e ⟨(ts.drop k).take n, by rw [upd_same, cut_both, ← List.map_drop, ← List.map_take], ((h2.drop k).take n).imp fun t xs g => e _ _ g⟩
theorem cat_ents {H : Hp} {l l2 : Addr} {es fs : List En} {Q : VK} (h : EntsAt H l es) (h' : EntsAt H l2 fs) (hl : es.length + fs.length ≤ 100000) (q : ∀ r H', H r = none → Same H H' → EntsAt H' r (es ++ fs) → Q (.ref r) H') : rCat (.ref l) (.ref l2) H Q := by
  obtain ⟨ts, h1, h2⟩ := h
  obtain ⟨us, h3, h4⟩ := h'
  refine ⟨l, l2, _, _, rfl, rfl, h1, h3, sz_le (by rw [List.length_map, List.length_map, h2.len, h4.len]; exact hl), fun r hr => ?_⟩
  have e := Nb.Same.new (o := .lst (ts.map V.ref ++ us.map V.ref)) (Same.refl H) hr
  exact q r _ hr e ⟨ts ++ us, by rw [upd_same, List.map_append], (Ents.cat h2 h4).imp fun t xs g => e _ _ g⟩
/-! ### one entry many times -/
def RN (n : Nat) : List En := List.replicate n ("a", 7)
theorem ents_rep {H : Hp} {t : Addr} {e : En} (ht : H t = some (.tup [.str e.1, .int e.2])) : ∀ n, Ents H (List.replicate n t) (List.replicate n e)
  | 0 => trivial
  | n + 1 => ⟨ht, ents_rep ht n⟩
theorem rn_ok {n : Nat} (h : n ≤ 200) : WF 5 [("a" : Str)] (RN n) := ⟨⟨by decide, by decide +kernel⟩, wf_a.cr, ⟨by unfold RN; rw [List.length_replicate]; exact h, fun e he => by
  rw [(List.mem_replicate.mp he).2]
  decide +kernel⟩⟩
theorem rn_take (n k : Nat) (h : k ≤ n) : (RN n).take k = RN k := by
  unfold RN
  rw [List.take_replicate, Nat.min_eq_left h]
theorem rn_len (n : Nat) : (RN n).length = n := List.length_replicate
theorem flat_one (n : Nat) (t : Addr) : (List.replicate n [V.ref t]).flatten = (List.replicate n t).map V.ref := by
  induction n with
  | zero => rfl
  | succ n ih =>
    rw [List.replicate_succ, List.flatten_cons, ih, List.replicate_succ, List.map_cons]
    rfl
end NbX

set_option Elab.async false
set_option linter.all false
set_option maxRecDepth 100000
set_option maxHeartbeats 4000000
/-! What a Sight holds; windows. -/
namespace NbW
open PySem PySem.Spec PyProof.Rows L2 Nb NbE NbS NbF NbP NbK NbL NbX
/-- the servers of the entries of a block, in their sequence -/
def hold (z : Int) (es : List En) (q : Int) : List Str := (es.filter fun e => decide (e.2 / z = q)).map (·.1)
/-- the places and blocks of a server's entries, counted from k -/
def plc (z : Int) (n : Str) : Nat → List En → List (Int × Int)
  | _, [] => []
  | k, e :: es => if e.1 = n then ((k : Int), e.2 / z) :: plc z n (k + 1) es else plc z n (k + 1) es
/-- tuples of two whole numbers -/
def Prs (H : Hp) : List Addr → List (Int × Int) → Prop
  | [], [] => True
  | t :: ts, e :: es => H t = some (.tup [.int e.1, .int e.2]) ∧ Prs H ts es
  | _, _ => False
theorem Prs.imp {H H' : Hp} (k : ∀ t xs, H t = some (.tup xs) → H' t = some (.tup xs)) : ∀ {ts : List Addr} {es : List (Int × Int)}, Prs H ts es → Prs H' ts es
  | [], [], _ => trivial
  | _ :: _, _ :: _, h => ⟨k _ _ h.1, Prs.imp k h.2⟩
  | [], _ :: _, h => h.elim
  | _ :: _, [], h => h.elim
theorem Prs.app {H : Hp} {t : Addr} {e : Int × Int} (ht : H t = some (.tup [.int e.1, .int e.2])) : ∀ {ts : List Addr} {es : List (Int × Int)}, Prs H ts es → Prs H (ts ++ [t]) (es ++ [e])
  | [], [], _ => ⟨ht, trivial⟩
  | _ :: _, _ :: _, h => ⟨h.1, Prs.app ht h.2⟩
  | [], _ :: _, h => h.elim
  | _ :: _, [], h => h.elim
theorem Prs.len {H : Hp} : ∀ {ts : List Addr} {es : List (Int × Int)}, Prs H ts es → ts.length = es.length
  | [], [], _ => rfl
  | _ :: _, _ :: _, h => by rw [List.length_cons, List.length_cons, Prs.len h.2]
  | [], _ :: _, h => h.elim
  | _ :: _, [], h => h.elim
theorem Prs.get {H : Hp} : ∀ {ts : List Addr} {es : List (Int × Int)} {i : Nat} {t : Addr}, Prs H ts es → ts[i]? = some t → ∃ e, es[i]? = some e ∧ H t = some (.tup [.int e.1, .int e.2])
  | t :: ts, e :: es, 0, _, h, g => by
    simp at g; subst g
    exact ⟨e, rfl, h.1⟩
  | t :: ts, e :: es, i + 1, _, h, g => by
    obtain ⟨e', h1, h2⟩ := Prs.get h.2 (by simpa using g)
    exact ⟨e', by simpa using h1, h2⟩
  | [], [], _, _, _, g => by simp at g
  | [], _ :: _, _, _, h, _ => h.elim
  | _ :: _, [], _, _, h, _ => h.elim
/-- all keys are whole numbers, each once, and blocks of entries -/
def KeyI (H : Hp) (dh : Addr) (z : Int) (es : List En) : Prop := ∀ kvs : List (Key × V), H dh = some (.dK kvs) → (∃ ks : List Int, kvs.map (·.1) = ks.map Sum.inl ∧ ks.Nodup) ∧ ∀ q : Int, valV kvs (.inl q) ≠ none → ∃ e ∈ es, e.2 / z = q
theorem KeyI.keep {H H' : Hp} {dh : Addr} {z : Int} {es es' : List En} {kvs : List (Key × V)} (k : KeyI H dh z es) (h : H dh = some (.dK kvs)) (h' : H' dh = some (.dK kvs)) (hs : ∀ e ∈ es, e ∈ es') : KeyI H' dh z es' := fun kws g => by
  rw [h'] at g
  cases g
  obtain ⟨a, b⟩ := k _ h
  refine ⟨a, fun q hq => ?_⟩
  obtain ⟨e, he, hz⟩ := b q hq
  exact ⟨e, hs e he, hz⟩
theorem keyI_nil {H : Hp} {dh : Addr} {z : Int} {es : List En} (h : H dh = some (.dK [])) : KeyI H dh z es := fun kvs g => by
  rw [h] at g
  cases g
  exact ⟨⟨[], rfl, List.nodup_nil⟩, fun q hq => absurd rfl hq⟩
theorem KeyI.put {H H' : Hp} {dh : Addr} {z : Int} {es : List En} {kvs : List (Key × V)} {e : En} {v : V} (k : KeyI H dh z es) (h : H dh = some (.dK kvs)) (hv : valV kvs (.inl (e.2 / z)) = none) (h' : H' dh = some (.dK (putK kvs (.inl (e.2 / z)) v))) : KeyI H' dh z (es ++ [e]) := fun kws g => by
  rw [h'] at g
  cases g
  obtain ⟨⟨ks, h1, h2⟩, h3⟩ := k _ h
  refine ⟨⟨ks ++ [e.2 / z], by rw [putK_new _ hv, List.map_append, h1, List.map_append]; rfl, ?_⟩, fun q hq => ?_⟩
  · rw [List.nodup_append]
    refine ⟨h2, by simp, fun a ha b hb => ?_⟩
    rw [List.mem_singleton.mp hb]
    rintro rfl
    have hm : (Sum.inl (e.2 / z) : Key) ∈ kvs.map (·.1) := by
      rw [h1]
      exact List.mem_map_of_mem ha
    obtain ⟨kv, hk, e'⟩ := List.mem_map.mp hm
    have h9 := valV_any (Sum.inl (e.2 / z) : Key) kvs
    rw [hv] at h9
    have h8 : (kvs.any fun kv => decide (kv.1 = (Sum.inl (e.2 / z) : Key))) = true := List.any_eq_true.mpr ⟨kv, hk, decide_eq_true e'⟩
    rw [h8] at h9
    cases h9
  · rw [valV_put] at hq
    by_cases g : (Sum.inl q : Key) = .inl (e.2 / z)
    · cases g
      exact ⟨e, by simp, rfl⟩
    · rw [if_neg g] at hq
      obtain ⟨e', he, hz⟩ := h3 q hq
      exact ⟨e', List.mem_append_left _ he, hz⟩
/-- the two dicts of a Sight, over entries that were gone through; own: which list is whose -/
structure Dicts (H : Hp) (dh dp : Addr) (z : Int) (ns : List Str) (es es' : List En) (own : Addr → Option (Int ⊕ Str)) : Prop where
  hd : ∃ kvs : List (Key × V), H dh = some (.dK kvs) ∧ kvs.length ≤ es.length ∧ ∀ q : Int, (valV kvs (.inl q) = none ∧ hold z es q = []) ∨ ∃ a, valV kvs (.inl q) = some (.ref a) ∧ own a = some (.inl q) ∧ CrewAt H a (hold z es q)
  pl : ∃ kvs : List (Key × V), H dp = some (.dK kvs) ∧ ∀ n ∈ ns, ∃ a ts, valV kvs (.inr n) = some (.ref a) ∧ own a = some (.inr n) ∧ H a = some (.lst (ts.map V.ref)) ∧ Prs H ts (plc z n 0 es')
  al : ∀ a, own a ≠ none → ∃ xs, H a = some (.lst xs)
  ne : dh ≠ dp
  ky : KeyI H dh z es
/-- all but one thing stays as it was -/
def Keep (p : Addr) (H H' : Hp) : Prop := ∀ a o, a ≠ p → H a = some o → H' a = some o
theorem Keep.refl (p : Addr) (H : Hp) : Keep p H H := fun _ _ _ h => h
theorem Keep.new {p : Addr} {H H' : Hp} (k : Keep p H H') {l : Addr} {o : HO} (hl : H' l = none) : Keep p H (upd H' l o) := fun a x n h => upd_keep (k a x n h) (ne_of_none (k a x n h) hl)
theorem Keep.mut {p : Addr} {H H' : Hp} (k : Keep p H H') {o : HO} : Keep p H (upd H' p o) := fun a x n h => upd_keep (k a x n h) n
theorem Keep.put {p : Addr} {H H' : Hp} (k : Keep p H H') {l : Addr} {o : HO} (hl : H l = none) : Keep p H (upd H' l o) := fun a x n h => upd_keep (k a x n h) (ne_of_none h hl)
abbrev CS (K : PySem.W.Frag) : Addr := He.ga K "Sight"
def fsS (nl : Addr) (m : Int) (dh dp : Addr) : List (Str × V) := [("names", .ref nl), ("last_slot", .int m), ("holders", .ref dh), ("places", .ref dp)]
def SightAt (K : PySem.W.Frag) (H : Hp) (p : Addr) (z : Int) (ns : List Str) (es : List En) : Prop :=
  ∃ dx nl dh dp own, H p = some (.ins (CS K) dx (fsS nl (es.length : Int) dh dp)) ∧ CrewAt H nl ns ∧ Dicts H dh dp z ns es es own ∧ WF z ns es
def sp_Sight_init (K : PySem.W.Frag) : Sp := fun vs H Q _ => ∃ (p dx : Addr) (z : Int) (c s : Addr) (ns : List Str) (es : List En), vs = [.ref p, .int z, .ref c, .ref s] ∧ H p = some (.ins (CS K) dx []) ∧ WF z ns es ∧ CrewAt H c ns ∧ EntsAt H s es ∧
  ∀ H', (∀ a o, a ≠ p → H a = some o → H' a = some o) → SightAt K H' p z ns es → Q .non H'
/-- the window of a server for a block -/
def low (far : Int) : List (Int × Int) → Int → Int
  | [], l => l
  | (i, b) :: r, l => low far r (if b < far then i + 1 else l)
def high (far : Int) : List (Int × Int) → Int → Int
  | [], h => h
  | (i, b) :: r, h => high far r (if b < far then h else min h i)
def winD (z : Int) (es : List En) (n : Str) (far : Int) : PyData := if (hold z es far).any (fun x => x != n) then .none else .tuple [.int (low far (plc z n 0 es) 0), .int (high far (plc z n 0 es) (es.length : Int))]
def sp_Sight_window_of (K : PySem.W.Frag) : Sp := fun vs H Q _ => ∃ (p : Addr) (z : Int) (ns : List Str) (es : List En) (n : Str) (far : Int), vs = [.ref p, .str n, .int far] ∧ SightAt K H p z ns es ∧ n ∈ ns ∧ ∀ v H', Same H H' → Dp K H' v (winD z es n far) → Q v H'
/-- what the class must be -/
structure SF (K : PySem.W.Frag) : Prop where
  cl : Cls K (CS K)
  nN : NoAttr K (CS K) "names"
  nL : NoAttr K (CS K) "last_slot"
  nH : NoAttr K (CS K) "holders"
  nP : NoAttr K (CS K) "places"
theorem fsS_names (nl : Addr) (m : Int) (dh dp : Addr) : (fsS nl m dh dp).lookup ("names" : Str) = some (.ref nl) := by
  unfold fsS
  rw [List.lookup_cons, show (("names" : Str) == ("names" : Str)) = true by decide +kernel]
theorem fsS_last (nl : Addr) (m : Int) (dh dp : Addr) : (fsS nl m dh dp).lookup ("last_slot" : Str) = some (.int m) := by
  unfold fsS
  rw [List.lookup_cons, show (("last_slot" : Str) == ("names" : Str)) = false by decide +kernel, List.lookup_cons, show (("last_slot" : Str) == ("last_slot" : Str)) = true by decide +kernel]
theorem fsS_holders (nl : Addr) (m : Int) (dh dp : Addr) : (fsS nl m dh dp).lookup ("holders" : Str) = some (.ref dh) := by
  unfold fsS
  rw [List.lookup_cons, show (("holders" : Str) == ("names" : Str)) = false by decide +kernel, List.lookup_cons, show (("holders" : Str) == ("last_slot" : Str)) = false by decide +kernel, List.lookup_cons, show (("holders" : Str) == ("holders" : Str)) = true by decide +kernel]
theorem fsS_places (nl : Addr) (m : Int) (dh dp : Addr) : (fsS nl m dh dp).lookup ("places" : Str) = some (.ref dp) := by
  unfold fsS
  rw [List.lookup_cons, show (("places" : Str) == ("names" : Str)) = false by decide +kernel, List.lookup_cons, show (("places" : Str) == ("last_slot" : Str)) = false by decide +kernel, List.lookup_cons, show (("places" : Str) == ("holders" : Str)) = false by decide +kernel, List.lookup_cons,
    show (("places" : Str) == ("places" : Str)) = true by decide +kernel]
/-- the holders of a block, looked up -/
theorem Dicts.held {H : Hp} {dh dp : Addr} {z : Int} {ns : List Str} {es es' : List En} {own : Addr → Option (Int ⊕ Str)} (D : Dicts H dh dp z ns es es' own) (q : Int) {l : Addr} (hl : H l = some (.lst [])) :
    ∃ kvs : List (Key × V), H dh = some (.dK kvs) ∧ ∃ a, ((valV kvs (.inl q)).getD (.ref l)) = .ref a ∧ CrewAt H a (hold z es q) := by
  obtain ⟨kvs, h1, _, h2⟩ := D.hd
  refine ⟨kvs, h1, ?_⟩
  rcases h2 q with ⟨h3, h4⟩ | ⟨a, h3, _, h4⟩
  · rw [h3, h4]
    exact ⟨l, rfl, hl⟩
  · rw [h3]
    exact ⟨a, rfl, h4⟩
theorem Dicts.same {H H' : Hp} {dh dp : Addr} {z : Int} {ns : List Str} {es es' : List En} {own : Addr → Option (Int ⊕ Str)} (D : Dicts H dh dp z ns es es' own) (e : Same H H') : Dicts H' dh dp z ns es es' own := by
  obtain ⟨kvs, h1, h2, h3⟩ := D.hd
  obtain ⟨kws, g1, g2⟩ := D.pl
  refine ⟨⟨kvs, e _ _ h1, h2, fun q => (h3 q).imp id fun ⟨a, x, y, w⟩ => ⟨a, x, y, w.same e⟩⟩, ⟨kws, e _ _ g1, fun n hn => ?_⟩, fun a ha => ?_, D.ne, D.ky.keep h1 (e _ _ h1) fun _ h => h⟩
  · obtain ⟨a, ts, x, y, u, v⟩ := g2 n hn
    exact ⟨a, ts, x, y, e _ _ u, v.imp fun t xs g => e _ _ g⟩
  · obtain ⟨xs, hx⟩ := D.al a ha
    exact ⟨xs, e _ _ hx⟩
theorem SightAt.same {K : PySem.W.Frag} {H H' : Hp} {p : Addr} {z : Int} {ns : List Str} {es : List En} (e : Same H H') (h : SightAt K H p z ns es) : SightAt K H' p z ns es := by
  obtain ⟨dx, nl, dh, dp, own, h1, h2, h3, h4⟩ := h
  exact ⟨dx, nl, dh, dp, own, e _ _ h1, h2.same e, h3.same e, h4⟩
theorem low_app (far : Int) : ∀ (xs : List (Int × Int)) (p : Int × Int) (l : Int), low far (xs ++ [p]) l = if p.2 < far then p.1 + 1 else low far xs l
  | [], (i, b), l => rfl
  | (i, b) :: xs, p, l => low_app far xs p _
theorem high_app (far : Int) : ∀ (xs : List (Int × Int)) (p : Int × Int) (h : Int), high far (xs ++ [p]) h = if p.2 < far then high far xs h else min (high far xs h) p.1
  | [], (i, b), h => rfl
  | (i, b) :: xs, p, h => high_app far xs p _
theorem Keep.free {p : Addr} {H H' : Hp} (k : Keep p H H') {o : HO} (hp : H' p = some o) {l : Addr} (hl : H' l = none) : H l = none := by
  cases h : H l with
  | none => rfl
  | some x =>
    have n : l ≠ p := fun e => by
      rw [e, hp] at hl
      cases hl
    rw [k l x n h] at hl
    cases hl
theorem it_list {K : PySem.W.Frag} {a : Addr} {xs : List V} {H0 : Hp} {Qd : Hp → Prop} {B : V → Hp → (Hp → Prop) → Prop} (Pv : Nat → Hp → Prop) (h0 : Pv 0 H0) (hl : ∀ i H, i ≤ xs.length → Pv i H → SqL K H a xs)
    (hs : ∀ i x H, xs[i]? = some x → Pv i H → B x H (Pv (i + 1))) (hd : ∀ H, Pv xs.length H → Qd H) :
    ∃ W : Nat → Nat → Hp → Prop, (∃ m, W 0 m H0) ∧ ∀ i m H, W i m H → ((Itl K a).stop i H ∧ Qd H) ∨ ((Itl K a).go i H ∧ ∃ Nx : Hp → Prop, (∀ H', Nx H' → ∃ m', m' < m ∧ W (i + 1) m' H') ∧ ∀ x H', (Itl K a).yld i H x H' → B x H' Nx) := by
  refine ⟨fun i m H => m = xs.length - i ∧ i ≤ xs.length ∧ Pv i H, ⟨_, rfl, Nat.zero_le _, h0⟩, ?_⟩
  rintro i m H ⟨rfl, hi, p⟩
  have q := hl i H hi p
  by_cases hlt : i < xs.length
  · refine .inr ⟨⟨xs, xs[i], q, by simp [hlt]⟩, Pv (i + 1), fun H' p' => ⟨_, by omega, rfl, hlt, p'⟩, fun x H' y => ?_⟩
    obtain ⟨e, y⟩ := y
    subst e
    exact hs i x _ (y xs q) p
  · have e : i = xs.length := by omega
    subst e
    exact .inl ⟨⟨xs, q, Nat.le_refl _⟩, hd H p⟩
theorem loop_enum {K : PySem.W.Frag} {a : Addr} {g : TG} {tb : TS} {D : Ends} {σ : L2.St} {H : Hp} (xs : List V) (Pv : Nat → L2.St → Hp → Prop) (h0 : Pv 0 σ H) (hl : ∀ i σ' H', i ≤ xs.length → Pv i σ' H' → SqL K H' a xs)
    (hs : ∀ (i : Nat) x σ' H' T, xs[i]? = some x → Pv i σ' H' → H' T = none → g (.ref T) σ' (upd H' T (.tup [.int (i : Int), x])) fun σ2 H2 => tb { D with nx := Pv (i + 1), ct := Pv (i + 1), bk := D.nx } σ2 H2)
    (hd : ∀ σ' H', Pv xs.length σ' H' → D.nx σ' H') : LoopR (Ite K a) g tb D σ H := by
  refine ⟨fun i m σ H => m = xs.length - i ∧ i ≤ xs.length ∧ Pv i σ H, ⟨_, rfl, Nat.zero_le _, h0⟩, ?_⟩
  rintro i m σ H ⟨rfl, hi, p⟩
  have q := hl i σ H hi p
  by_cases hlt : i < xs.length
  · refine .inr ⟨⟨xs, xs[i], q, by simp [hlt]⟩, Pv (i + 1), fun σ' H' p' => ⟨_, by omega, rfl, hlt, p'⟩, fun x H' y => ?_⟩
    obtain ⟨T, x', rfl, hT, rfl, y⟩ := y
    exact hs i x' σ H T (y xs q) p hT
  · have e : i = xs.length := by omega
    subst e
    exact .inl ⟨⟨xs, q, Nat.le_refl _⟩, hd σ H p⟩
theorem hold_app (z : Int) (es : List En) (e : En) (q : Int) : hold z (es ++ [e]) q = hold z es q ++ (if e.2 / z = q then [e.1] else []) := by
  unfold hold
  rw [List.filter_append, List.map_append]
  by_cases h : e.2 / z = q
  · simp [h]
  · simp [h]
theorem plc_app (z : Int) (n : Str) : ∀ (es : List En) (k : Nat) (e : En), plc z n k (es ++ [e]) = plc z n k es ++ (if e.1 = n then [(((k + es.length : Nat) : Int), e.2 / z)] else [])
  | [], k, e => by
    show plc z n k [e] = _
    unfold plc
    unfold plc
    simp
  | x :: es, k, e => by
    have ih := plc_app z n es (k + 1) e
    have ek : k + 1 + es.length = k + (x :: es).length := by
      rw [List.length_cons]
      omega
    rw [ek] at ih
    show plc z n k (x :: (es ++ [e])) = _
    rw [show plc z n k (x :: (es ++ [e])) = if x.1 = n then ((k : Int), x.2 / z) :: plc z n (k + 1) (es ++ [e]) else plc z n (k + 1) (es ++ [e]) from rfl, show plc z n k (x :: es) = if x.1 = n then ((k : Int), x.2 / z) :: plc z n (k + 1) es else plc z n (k + 1) es from rfl, ih]
    by_cases h : x.1 = n
    · rw [if_pos h, if_pos h]
      rfl
    · rw [if_neg h, if_neg h]
theorem Dicts.place {H : Hp} {dh D : Addr} {z : Int} {ms : List Str} {own : Addr → Option (Int ⊕ Str)} (d : Dicts H dh D z ms [] [] own) {kvs : List (Key × V)} (hD : H D = some (.dK kvs)) {n : Str} (hn : n ∉ ms) {l : Addr} (hl : H l = none) :
    Dicts (upd (upd H l (.lst [])) D (.dK (putK kvs (.inr n) (.ref l)))) dh D z (ms ++ [n]) [] [] (fun a => if a = l then some (.inr n) else own a) := by
  have nlD : l ≠ D := (ne_of_none hD hl).symm
  have keep : ∀ a o, H a = some o → a ≠ D → upd (upd H l (.lst [])) D (.dK (putK kvs (.inr n) (.ref l))) a = some o := fun a o h h2 => upd_keep (upd_keep h (ne_of_none h hl)) h2
  obtain ⟨kv0, h1, h2, h3⟩ := d.hd
  obtain ⟨kw, g1, g2⟩ := d.pl
  rw [hD] at g1
  cases g1
  refine ⟨⟨kv0, keep _ _ h1 d.ne, h2, fun q => (h3 q).imp id ?_⟩, ⟨_, upd_same, fun n' hn' => ?_⟩, fun a ha => ?_, d.ne, d.ky.keep h1 (keep _ _ h1 d.ne) fun _ h => h⟩
  · rintro ⟨a, x, y, w⟩
    exact ⟨a, x, by rw [if_neg (ne_of_none w hl)]; exact y, keep _ _ w (ne_of w hD (by simp))⟩
  · rw [valV_put]
    rcases List.mem_append.mp hn' with h | h
    · have hne : n' ≠ n := fun e => hn (e ▸ h)
      obtain ⟨a, ts, x, y, u, v⟩ := g2 n' h
      refine ⟨a, ts, by rw [if_neg (fun e => hne (by injection e))]; exact x, by rw [if_neg (ne_of_none u hl)]; exact y, keep _ _ u (ne_of u hD (by simp)), v.imp fun t xs g => keep _ _ g (ne_of g hD (by simp))⟩
    · rw [List.mem_singleton.mp h]
      exact ⟨l, [], by rw [if_pos rfl], by rw [if_pos rfl], upd_keep upd_same nlD, trivial⟩
  · by_cases h : a = l
    · subst h
      exact ⟨_, upd_keep upd_same nlD⟩
    · rw [if_neg h] at ha
      obtain ⟨xs, hx⟩ := d.al a ha
      exact ⟨xs, keep _ _ hx (ne_of hx hD (by simp))⟩
/-- one server more among the holders of a block: its list stood -/
theorem Dicts.hold1 {H : Hp} {dh dp : Addr} {z : Int} {ns : List Str} {es es' : List En} {own : Addr → Option (Int ⊕ Str)} (d : Dicts H dh dp z ns es es' own) {e : En} {a l : Addr} (ho : own a = some (.inl (e.2 / z))) (ha : CrewAt H a (hold z es (e.2 / z)))
    (hl : H l = none) {kvs : List (Key × V)} (hk : H dh = some (.dK kvs)) (hv : valV kvs (.inl (e.2 / z)) = some (.ref a)) : Dicts (upd (upd H l (.lst [])) a (.lst ((hold z es (e.2 / z)).map V.str ++ [.str e.1]))) dh dp z ns (es ++ [e]) es' own := by
  have keep : ∀ b o, H b = some o → b ≠ a → upd (upd H l (.lst [])) a (.lst ((hold z es (e.2 / z)).map V.str ++ [.str e.1])) b = some o := fun b o h h2 => upd_keep (upd_keep h (ne_of_none h hl)) h2
  obtain ⟨kv0, h1, h2, h3⟩ := d.hd
  obtain ⟨kw, g1, g2⟩ := d.pl
  rw [hk] at h1
  cases h1
  refine ⟨⟨kvs, keep _ _ hk (ne_of hk ha (by simp)), by rw [List.length_append]; omega, fun q => ?_⟩, ⟨kw, keep _ _ g1 (ne_of g1 ha (by simp)), fun n hn => ?_⟩, fun b hb => ?_, d.ne, d.ky.keep hk (keep _ _ hk (ne_of hk ha (by simp))) fun _ h => List.mem_append_left _ h⟩
  · rw [hold_app]
    by_cases h : e.2 / z = q
    · subst h
      exact .inr ⟨a, hv, ho, by rw [if_pos rfl]; show upd _ _ _ _ = _; rw [upd_same, List.map_append]; rfl⟩
    · rw [if_neg h, List.append_nil]
      refine (h3 q).imp id ?_
      rintro ⟨b, x, y, w⟩
      refine ⟨b, x, y, keep _ _ w fun eq => h ?_⟩
      rw [eq, ho] at y
      injection y with y
      injection y
  · obtain ⟨b, ts, x, y, u, v⟩ := g2 n hn
    refine ⟨b, ts, x, y, keep _ _ u fun eq => ?_, v.imp fun t xs g => keep _ _ g (ne_of g ha (by simp))⟩
    rw [eq, ho] at y
    cases y
  · by_cases h : b = a
    · subst h
      exact ⟨_, upd_same⟩
    · obtain ⟨xs, hx⟩ := d.al b hb
      exact ⟨xs, keep _ _ hx h⟩
/-- .. its list is new -/
theorem Dicts.hold0 {H : Hp} {dh dp : Addr} {z : Int} {ns : List Str} {es es' : List En} {own : Addr → Option (Int ⊕ Str)} (d : Dicts H dh dp z ns es es' own) {e : En} {l : Addr} (hl : H l = none) {kvs : List (Key × V)} (hk : H dh = some (.dK kvs))
    (hv : valV kvs (.inl (e.2 / z)) = none) : hold z es (e.2 / z) = [] ∧ Dicts (upd (upd (upd H l (.lst [])) dh (.dK (putK kvs (.inl (e.2 / z)) (.ref l)))) l (.lst [.str e.1])) dh dp z ns (es ++ [e]) es' (fun b => if b = l then some (.inl (e.2 / z)) else own b) := by
  have nl : dh ≠ l := ne_of_none hk hl
  have keep : ∀ b o, H b = some o → b ≠ dh → upd (upd (upd H l (.lst [])) dh (.dK (putK kvs (.inl (e.2 / z)) (.ref l)))) l (.lst [.str e.1]) b = some o := fun b o h h2 => upd_keep (upd_keep (upd_keep h (ne_of_none h hl)) h2) (ne_of_none h hl)
  obtain ⟨kv0, h1, h2, h3⟩ := d.hd
  obtain ⟨kw, g1, g2⟩ := d.pl
  rw [hk] at h1
  cases h1
  have hno : hold z es (e.2 / z) = [] := by
    rcases h3 (e.2 / z) with h | ⟨a, h, _⟩
    · exact h.2
    · rw [hv] at h
      cases h
  have hpl : (putK kvs (.inl (e.2 / z)) (.ref l)).length = kvs.length + 1 := by rw [putK_new _ hv]; simp
  refine ⟨hno, ⟨_, upd_keep upd_same nl, by rw [List.length_append, List.length_singleton]; omega, fun q => ?_⟩, ⟨kw, keep _ _ g1 d.ne.symm, fun n hn => ?_⟩, fun b hb => ?_, d.ne, d.ky.put hk hv (upd_keep upd_same nl)⟩
  · rw [valV_put, hold_app]
    by_cases h : e.2 / z = q
    · subst h
      refine .inr ⟨l, by rw [if_pos rfl], by rw [if_pos rfl], ?_⟩
      rw [hno, if_pos rfl]
      exact upd_same
    · rw [if_neg (fun eq => h (by injection eq with eq; exact eq.symm)), if_neg h, List.append_nil]
      refine (h3 q).imp id ?_
      rintro ⟨b, x, y, w⟩
      exact ⟨b, x, by rw [if_neg (ne_of_none w hl)]; exact y, keep _ _ w (ne_of w hk (by simp))⟩
  · obtain ⟨b, ts, x, y, u, v⟩ := g2 n hn
    exact ⟨b, ts, x, by rw [if_neg (ne_of_none u hl)]; exact y, keep _ _ u (ne_of u hk (by simp)), v.imp fun t xs g => keep _ _ g (ne_of g hk (by simp))⟩
  · by_cases h : b = l
    · subst h
      exact ⟨_, upd_same⟩
    · rw [if_neg h] at hb
      obtain ⟨xs, hx⟩ := d.al b hb
      exact ⟨xs, keep _ _ hx (ne_of hx hk (by simp))⟩
/-- one place more of a server -/
theorem Dicts.place1 {H : Hp} {dh dp : Addr} {z : Int} {ns : List Str} {es es' : List En} {own : Addr → Option (Int ⊕ Str)} (d : Dicts H dh dp z ns es es' own) {e : En} {a t : Addr} {ts : List Addr} (ho : own a = some (.inr e.1)) (ha : H a = some (.lst (ts.map V.ref)))
    (hp : Prs H ts (plc z e.1 0 es')) (ht : H t = none) {kws : List (Key × V)} (hk : H dp = some (.dK kws)) (hv : valV kws (.inr e.1) = some (.ref a)) : Dicts (upd (upd H t (.tup [.int (es'.length : Int), .int (e.2 / z)])) a (.lst (ts.map V.ref ++ [.ref t]))) dh dp z ns es (es' ++ [e]) own := by
  have keep : ∀ b o, H b = some o → b ≠ a → upd (upd H t (.tup [.int (es'.length : Int), .int (e.2 / z)])) a (.lst (ts.map V.ref ++ [.ref t])) b = some o := fun b o h h2 => upd_keep (upd_keep h (ne_of_none h ht)) h2
  have nta : t ≠ a := (ne_of_none ha ht).symm
  obtain ⟨kv0, h1, h2, h3⟩ := d.hd
  obtain ⟨kw, g1, g2⟩ := d.pl
  rw [hk] at g1
  cases g1
  refine ⟨⟨kv0, keep _ _ h1 (ne_of h1 ha (by simp)), h2, fun q => (h3 q).imp id ?_⟩, ⟨kws, keep _ _ hk (ne_of hk ha (by simp)), fun n hn => ?_⟩, fun b hb => ?_, d.ne, d.ky.keep h1 (keep _ _ h1 (ne_of h1 ha (by simp))) fun _ h => h⟩
  · rintro ⟨b, x, y, w⟩
    refine ⟨b, x, y, keep _ _ w fun eq => ?_⟩
    rw [eq, ho] at y
    cases y
  · obtain ⟨b, us, x, y, u, v⟩ := g2 n hn
    rw [plc_app, Nat.zero_add]
    by_cases h : e.1 = n
    · subst h
      rw [hv] at x
      injection x with x
      injection x with x
      subst x
      rw [ha] at u
      injection u with u
      injection u with u
      have eu : ts = us := by
        have := congrArg (List.map fun v => match v with | V.ref q => q | _ => a) u
        simpa [List.map_map, Function.comp_def] using this
      subst eu
      refine ⟨a, ts ++ [t], hv, ho, by rw [upd_same, List.map_append]; rfl, ?_⟩
      rw [if_pos rfl]
      exact Prs.app (e := ((es'.length : Int), e.2 / z)) (upd_keep upd_same nta) (hp.imp fun t xs g => keep _ _ g (ne_of g ha (by simp)))
    · rw [if_neg h, List.append_nil]
      refine ⟨b, us, x, y, keep _ _ u fun eq => h ?_, v.imp fun t xs g => keep _ _ g (ne_of g ha (by simp))⟩
      rw [eq, ho] at y
      injection y with y
      injection y
  · by_cases h : b = a
    · subst h
      exact ⟨_, upd_same⟩
    · obtain ⟨xs, hx⟩ := d.al b hb
      exact ⟨xs, keep _ _ hx h⟩
theorem fsS_put (nl : Addr) (m : Int) (dh dp : Addr) : putF "places" (.ref dp) [("names", .ref nl), ("last_slot", .int m), ("holders", .ref dh)] = fsS nl m dh dp := by
  have h1 : ¬ (("names" : Str) = "places") := by decide +kernel
  have h2 : ¬ (("last_slot" : Str) = "places") := by decide +kernel
  have h3 : ¬ (("holders" : Str) = "places") := by decide +kernel
  simp [putF, if_neg h1, if_neg h2, if_neg h3, fsS]
theorem plc_len (z : Int) (n : Str) : ∀ (es : List En) (k : Nat), (plc z n k es).length ≤ es.length
  | [], _ => Nat.le_refl _
  | x :: es, k => by
    have ih := plc_len z n es (k + 1)
    rw [show plc z n k (x :: es) = if x.1 = n then ((k : Int), x.2 / z) :: plc z n (k + 1) es else plc z n (k + 1) es from rfl, List.length_cons]
    by_cases h : x.1 = n
    · rw [if_pos h, List.length_cons]
      omega
    · rw [if_neg h]
      omega
theorem putK_le (c : List (Key × V)) (k : Key) (x : V) : (putK c k x).length ≤ c.length + 1 := by
  unfold putK
  split
  · rw [List.length_map]
    omega
  · rw [List.length_append, List.length_singleton]
    omega
theorem Dicts.mutP {H : Hp} {dh dp : Addr} {z : Int} {ns : List Str} {es es' : List En} {own : Addr → Option (Int ⊕ Str)} (D : Dicts H dh dp z ns es es' own) {p c d : Addr} {f g : List (Str × V)} (hp : H p = some (.ins c d f)) : Dicts (upd H p (.ins c d g)) dh dp z ns es es' own := by
  obtain ⟨kvs, h1, h2, h3⟩ := D.hd
  obtain ⟨kws, g1, g2⟩ := D.pl
  refine ⟨⟨kvs, upd_keep h1 (ne_of h1 hp (by simp)), h2, fun q => (h3 q).imp id fun ⟨a, x, y, w⟩ => ⟨a, x, y, upd_keep w (ne_of w hp (by simp))⟩⟩, ⟨kws, upd_keep g1 (ne_of g1 hp (by simp)), fun n hn => ?_⟩, fun a ha => ?_, D.ne, D.ky.keep h1 (upd_keep h1 (ne_of h1 hp (by simp))) fun _ h => h⟩
  · obtain ⟨a, ts, x, y, u, v⟩ := g2 n hn
    exact ⟨a, ts, x, y, upd_keep u (ne_of u hp (by simp)), v.imp fun t xs g => upd_keep g (ne_of g hp (by simp))⟩
  · obtain ⟨xs, hx⟩ := D.al a ha
    exact ⟨xs, upd_keep hx (ne_of hx hp (by simp))⟩
def sp_check_block (_ : PySem.W.Frag) : Sp := fun vs H Q _ => ∃ i, vs = [.int i] ∧ 0 ≤ i ∧ Q .non H
def sp_sight_of (K : PySem.W.Frag) : Sp := fun vs H Q _ => ∃ p b z ns es, vs = [.ref p] ∧ LogAt K H p b z ns es ∧ ∀ a H', Same H H' → SightAt K H' a z ns es → Q (.ref a) H'
def sp_window (K : PySem.W.Frag) : Sp := fun vs H Q _ => ∃ p b z ns es n far, vs = [.ref p, .str n, .int far] ∧ LogAt K H p b z ns es ∧ n ∈ ns ∧ 0 ≤ far ∧ ∀ v H', Same H H' → Dp K H' v (winD z es n far) → Q v H'
theorem fsS_no (nl : Addr) (m : Int) (dh dp : Addr) : (fsS nl m dh dp).lookup ("window_of" : Str) = none := by
  unfold fsS
  rw [List.lookup_cons, show (("window_of" : Str) == ("names" : Str)) = false by decide +kernel, List.lookup_cons, show (("window_of" : Str) == ("last_slot" : Str)) = false by decide +kernel, List.lookup_cons, show (("window_of" : Str) == ("holders" : Str)) = false by decide +kernel, List.lookup_cons,
    show (("window_of" : Str) == ("places" : Str)) = false by decide +kernel]
  rfl
/-- the law's own window, entry by entry -/
def lawW (z : Int) (n : Str) (far m : Int) : Int → List En → Int → Int → Option (Int × Int)
  | _, [], l, h => some (l, h)
  | k, e :: es, l, h => if e.1 ≠ n ∧ e.2 / z = far then none else lawW z n far m (k + 1) es (if e.1 = n ∧ e.2 / z < far then k + 1 else l) (if e.1 = n ∧ far ≤ e.2 / z ∧ h = m then k else h)
def duD : Option (Int × Int) → PyData
  | none => .none
  | some (l, h) => .tuple [.int l, .int h]
def sp_law_window (K : PySem.W.Frag) : Sp := fun vs H Q _ => ∃ (s : Addr) (z : Int) (n : Str) (far : Int) (es : List En), vs = [.ref s, .int z, .str n, .int far] ∧ SizeOk z ∧ es.length ≤ 200 ∧ EntsAt H s es ∧ ∀ v H', Same H H' → Dp K H' v (duD (lawW z n far (es.length : Int) 0 es 0 (es.length : Int))) → Q v H'
theorem dS {a b : Str} : decide (V.str a = V.str b) = decide (a = b) := by simp
theorem dI {a b : Int} : decide (V.int a = V.int b) = decide (a = b) := by simp
theorem lawW_cons (z : Int) (n : Str) (far m k : Int) (e : En) (es : List En) (l h : Int) : lawW z n far m k (e :: es) l h = if e.1 ≠ n ∧ e.2 / z = far then none else lawW z n far m (k + 1) es (if e.1 = n ∧ e.2 / z < far then k + 1 else l) (if e.1 = n ∧ far ≤ e.2 / z ∧ h = m then k else h) := rfl
theorem hold_cons (z : Int) (e : En) (es : List En) (q : Int) : hold z (e :: es) q = if e.2 / z = q then e.1 :: hold z es q else hold z es q := by
  unfold hold
  by_cases h : e.2 / z = q
  · simp [h]
  · simp [h]
theorem plc_cons (z : Int) (n : Str) (k : Nat) (e : En) (es : List En) : plc z n k (e :: es) = if e.1 = n then ((k : Int), e.2 / z) :: plc z n (k + 1) es else plc z n (k + 1) es := rfl
theorem low_cons (far i b : Int) (r : List (Int × Int)) (l : Int) : low far ((i, b) :: r) l = low far r (if b < far then i + 1 else l) := rfl
theorem high_cons (far i b : Int) (r : List (Int × Int)) (h : Int) : high far ((i, b) :: r) h = high far r (if b < far then h else min h i) := rfl
theorem lawW_eq (z : Int) (n : Str) (far m : Int) : ∀ (es : List En) (k : Nat) (l h : Int), (h = m ∨ h < (k : Int)) → (k : Int) + (es.length : Int) ≤ m →
    lawW z n far m (k : Int) es l h = if (hold z es far).any (fun x => x != n) then none else some (low far (plc z n k es) l, high far (plc z n k es) h)
  | [], k, l, h, _, _ => rfl
  | e :: es, k, l, h, hh, hm => by
    rw [List.length_cons] at hm
    have ih := fun l' h' (x : h' = m ∨ h' < ((k + 1 : Nat) : Int)) => lawW_eq z n far m es (k + 1) l' h' x (by omega)
    rw [lawW_cons, hold_cons, plc_cons]
    by_cases h1 : e.1 = n
    · rw [if_neg (fun g => g.1 h1), if_pos h1, low_cons, high_cons]
      have hx : ((if e.2 / z = far then e.1 :: hold z es far else hold z es far).any fun x => x != n) = ((hold z es far).any fun x => x != n) := by
        split
        · rw [List.any_cons, h1]
          simp
        · rfl
      rw [hx]
      by_cases h2 : e.2 / z < far
      · rw [if_pos ⟨h1, h2⟩, if_neg (fun g => by have := g.2.1; omega), if_pos h2, if_pos h2]
        exact ih _ _ (by omega)
      · rw [if_neg (fun g => h2 g.2), if_neg h2, if_neg h2]
        by_cases h3 : h = m
        · rw [if_pos ⟨h1, by omega, h3⟩, show min h (k : Int) = (k : Int) by omega]
          exact ih _ _ (by omega)
        · rw [if_neg (fun g => h3 g.2.2), show min h (k : Int) = h by omega]
          exact ih _ _ (by omega)
    · rw [if_neg h1, if_neg (fun g : e.1 = n ∧ e.2 / z < far => h1 g.1), if_neg (fun g : e.1 = n ∧ far ≤ e.2 / z ∧ h = m => h1 g.1)]
      by_cases h2 : e.2 / z = far
      · rw [if_pos ⟨h1, h2⟩, if_pos h2, List.any_cons, show (e.1 != n) = true by simp [h1]]
        rfl
      · rw [if_neg (fun g => h2 g.2), if_neg h2]
        exact ih _ _ (by omega)
theorem duD_winD (z : Int) (n : Str) (far : Int) (es : List En) : duD (lawW z n far (es.length : Int) 0 es 0 (es.length : Int)) = winD z es n far := by
  have h := lawW_eq z n far (es.length : Int) es 0 0 (es.length : Int) (.inl rfl) (by omega)
  rw [show lawW z n far (es.length : Int) 0 es 0 (es.length : Int) = _ from h]
  unfold winD
  split
  · rfl
  · rfl
def sp_law_blocks (K : PySem.W.Frag) : Sp := fun vs H Q _ => ∃ (fa s : Addr) (z : Int) (es : List En), vs = [.ref fa, .ref s, .int z] ∧ Feed H fa ∧ SizeOk z ∧ es.length ≤ 200 ∧ (∀ e ∈ es, 0 ≤ e.2) ∧ EntsAt H s es ∧ ∀ a H' (ms : List Int), H a = none → Stp fa H H' → H' a = some (.lst (ms.map V.int)) → ms.length ≤ 603 → ms ≠ [] → (∀ m ∈ ms, 0 ≤ m) → Q (.ref a) H'
end NbW

set_option Elab.async false
set_option linter.all false
set_option maxRecDepth 100000
set_option maxHeartbeats 4000000
/-! sorted(..) of a set of whole numbers, 64 and more too. -/
namespace NbV
open PySem PySem.Spec PySem.Calls PyProof.Rows L2 Nb NbE NbS NbF NbP NbK NbL NbU NbX NbW
section
variable {P : Program} {w : World} {A : Around} {s : Shared} {a : Addr} {E : Value → Shared → Prop}
theorem sortedS {S : Int → Bool} {n : Nat} {Q : Value → Shared → Prop} (R : SetR w s.heap a S n) (hh : A.handled = none) (few : n ≤ 4000)
    (fin : ∀ s' p (out : Array Value) (c : Nat) (ns : List Int), (∀ b o, s.heap.get? b = some o → s'.heap.get? b = some o) → s'.gens = s.gens → s'.os = s.os → s.heap.objs.size ≤ p →
      s'.heap.get? p = some (seqObj "list" out c) → IntsAre out.toList ns → ns.Pairwise (· < ·) → (∀ k, k ∈ ns ↔ S k = true) → ns.length = n → Q (.ref p) s') :
    wpAny (model P w) A (call (.builtin "sorted") [.ref a]) Q E s := by
  obtain ⟨o, es, ep, t, ho, hex, hd, g, nd, hm, hb, hf, hn, hr, hl⟩ := R
  have hle : n ≤ sizeLine := sz_le (by omega)
  refine Calls.call_function_entry kind_sorted plain_sorted entry_sorted (args_sorted1 _) ?_
  unfold Builtin.«sorted»
  refine wpAny_bind (m := checkCount "sorted" 1 1 _) (wpAny_pure (wpAny_bind (collect_set (A := A.in1) hh ⟨o, ho, hex.1, hd⟩ hf hb hr hl fun s1 vs k1 hz g1 o1 pm => ?_)))
  have many : vs.length = n := by rw [pm.length_eq, List.length_map, Array.length_toList, hn]
  have whole : IntsAre vs (vs.map Builtin.Re.reRawOf) := ints_of vs fun v hv => by
    obtain ⟨e, he, q⟩ := List.mem_map.mp (pm.mem_iff.mp hv)
    obtain ⟨k, tk, h1, _⟩ := g e he
    exact ⟨k, tk, q ▸ h1⟩
  have pk : (vs.map Builtin.Re.reRawOf).Perm (es.toList.map keyOf) := by
    have q := pm.map Builtin.Re.reRawOf
    rwa [List.map_map] at q
  refine wpAny_bind (wpAny_newList ?_ (by rw [many]; exact hle))
  have hoL : (s1.heap.push (seqObj "list" vs.toArray 0)).get? s1.heap.objs.size = some (seqObj "list" vs.toArray 0) := Heap.get?_push_size _ rfl
  refine wpAny_bind (wpAny_holding (wpAny_call_entry slot_list_sort ⟨_, hoL, rfl⟩ entry_list_sort (SrtO.list_sort_ord SrtO.swo_int hoL (by rw [many]; exact hle) (fun h2 => SrtO.ints_sortable whole h2) fun out b1 b2 => ⟨_, rfl, ?_⟩) (args_list_sort _)))
  obtain ⟨a1, a2, a3⟩ := SrtO.ints_out whole b1 b2
  obtain ⟨c, hc⟩ := sortedHeap_at (vs := vs) (out := out.toArray) hoL
  have pn := a2.trans pk
  refine wpAny_pure ⟨_, rfl, fin _ s1.heap.objs.size out.toArray c _ (fun b u e => ?_) g1 o1 hz hc a1 (lt_of_le_nodup _ a3 (pn.nodup_iff.mpr nd)) (fun k => by rw [pn.mem_iff, ← hm k]) ?_⟩
  · have q := k1 b u e
    have hlt := Heap.lt_size q
    show (sortedHeap (s1.heap.push (seqObj "list" vs.toArray 0)) s1.heap.objs.size vs out.toArray).get? b = some u
    rw [sortedHeap_old (Nat.ne_of_lt hlt) (by rw [size_push']; exact Nat.lt_succ_of_lt hlt)]
    exact Heap.get?_push_of_some _ q
  · rw [pn.length_eq, List.length_map, Array.length_toList, hn]
end
/-- sorted(found), a set of whole numbers -/
def rSortS (w : World) : List V → Hp → VK → Prop := fun vs H Q => ∃ (a : Addr) (S : Int → Bool) (n : Nat), vs = [V.ref a] ∧ H a = some (SetO w a S n) ∧ n ≤ 4000 ∧
  ∀ (ms : List Int) (p : Addr), ms.Pairwise (· < ·) → (∀ k : Int, k ∈ ms ↔ S k = true) → ms.length = n → H p = none → Q (.ref p) (upd H p (.lst (ms.map V.int)))
theorem cr_sortS {X : Cx} (hc : X.calm = true) : CallR X (.builtin "sorted") (rSortS X.w) := by
  intro pins s σ H vs us Q I r h
  obtain ⟨a, S, n, rfl, ha, few, q⟩ := h
  rw [Vals.ref1 r]
  refine sortedS (setO_get I ha) (I.ok.hd hc) few fun s' p out c ms k g o hp hg hi hs hm hl => ?_
  have free : H p = none := I.hok.fresh hp
  have fits : (ms.map V.int).length ≤ sizeLine := by
    rw [List.length_map, hl]
    exact sz_le (by omega)
  have J : Inv X pins σ (upd H p (.lst (ms.map V.int))) { s with heap := s'.heap, gens := s'.gens, drawn := s'.drawn, toks := s'.toks } :=
    I.call (ch := []) (Un.laid k hp free) (I.hok.laid k hp ⟨fits, out.toList, c, vals_of_ints hi, hg⟩) (by rw [g]; exact I.bare) (fun _ z => nomatch z)
  have same : s' = { s with heap := s'.heap, gens := s'.gens, drawn := s'.drawn, toks := s'.toks } := by
    cases s'
    cases s
    cases o
    rfl
  rw [same]
  exact ⟨.ref p, _, J, rfl, q ms p hs hm hl free⟩
end NbV

set_option Elab.async false
set_option linter.all false
set_option maxRecDepth 100000
set_option maxHeartbeats 4000000
/-! A def called by keywords alone. -/
namespace NbZ
open PySem PySem.Spec PySem.Calls PyProof.Rows L2 Nb NbE NbS NbF NbP NbK NbL NbU NbX NbW NbV
structure CalF (P : Program) (w : World) (K : PySem.W.Frag) (mg : Str → Option Value) (base : Heap) (k : Nat) (x : Str) (ks : List Str) (gV : List V → List V → List V) (sp : Sp) : Prop where
  ex : ∃ (f : Addr) (fd : FuncData) (ps : List Str) (g : List Value → List Value → List Value), mg x = some (.ref f) ∧ FnOk P w K mg base CX0 k f fd ps sp ∧ PySem.W.keepIn K (.ref f) = true ∧ KBn K fd ps 0 ks g gV
def tCallK0 (n : Nat) (sp : Sp) (gV : List V → List V → List V) (tk : TA) : TE := fun σ H Q => tk σ H fun zs H2 => zs.length = n ∧ sp (gV [] zs) H2 Q E0
variable {X : Cx} {k j : Nat} {sp : Sp} {ks : List Str} {gV : List V → List V → List V} {x : Str} {tk : TA} {kws : List Keyword} {p pos : Pos}
theorem pe_cK0 (c : CalF X.prog X.w X.K X.mg X.base k x ks gV sp) (hr : Room j X.A) (hk : k ≤ j) (hg : Gl X x) (hkw : PK X kws tk) (hall : (backToKw pos (keywordEach kws X.env)).all (·.1.isSome) = true := by rfl)
    (hks : (backToKw pos (keywordEach kws X.env)).filterMap (·.1) = ks := by rfl) (hdb : (x == ("__debug__" : Str)) = false := by decide) (hpl : ((backTo pos (starEach [] X.env)).any (·.1) || (backToKw pos (keywordEach kws X.env)).any (·.1.isNone)) = false := by rfl) :
    PE X (.Call (.Name x p) [] kws pos) (tCallK0 ks.length sp gV tk) := by
  obtain ⟨f, fd, ps, g, hm, F, kp, hb⟩ := c.ex
  refine ⟨fun pins s σ H Q I h => ?_⟩
  refine wpAny_Call_Name_kw (ld_glob I hg hm ?_ hdb)
  refine PySem.W.callWith_KW0 (first := []) (h₀ := X.base) I.ok.mod.kin kp hall ?_ hpl
  refine thn (hkw.run pos pins s σ H _ I h) fun ws s2 z => ?_
  obtain ⟨zs, H2, I2, rz, l2, q2⟩ := z
  refine ⟨I2.kIn, ?_⟩
  rw [hks, List.append_nil]
  refine wpAny_call (codeAny_mono (F.run X.A X.stack s2 H2 ⟨[], ks.zip ws⟩ (g [] ws) (gV [] zs) Q E0 (hr.mono hk) I2.env0 (hb.to s2 [] ws I2.kIn rfl (by rw [← rz.length]; exact l2)) (hb.rel .nil rz) q2) fun r s' hq => ?_)
  cases r with
  | error e => exact hq.elim
  | ok fl => cases fl with
    | ret u => exact I2.after hq
    | _ => exact hq.elim
/-! how keywords alone bind -/
def z1 {α : Type} (g : α → List α) (us ws : List α) : List α := match us, ws with
  | [], [b] => g b
  | _, _ => []
theorem kf1 {K : PySem.W.Frag} {x qual : Str} {params : Arguments} {body : List Stmt} {scope : Scope} {f : Addr} {fd : FuncData} {ps ks : List Str} (F : FunD K x qual params body scope [] [] f fd) (g : {α : Type} → α → List α)
    (hrel : ∀ {b : V} {b' : Value}, RelV b b' → Vals (g b) (g b')) (hk : ks.length = 1)
    (h : ∀ (kV doc pm : Value) (an : Option Addr) (cdv ct b : Value), bindArgs (PySem.W.fnOf x qual params body scope .none kV doc pm an cdv ct) ⟨[], ks.zip [b]⟩ = pure (ps.zip (g b))) : KBn K fd ps 0 ks (z1 g) (z1 g) := by
  obtain ⟨oc, od, dV, kV, doc, pm, an, cdv, ct, osl, rfl, lk, hcd, hD, hK⟩ := F.ex
  rcases hD with ⟨_, rfl⟩ | ⟨e, _⟩
  · refine ⟨fun s us ws X l1 l2 => ?_, fun r1 r2 => ?_⟩
    · rw [hk] at l2
      match us, ws, l1, l2 with
      | [], [b], _, _ => exact .of_eq (h kV doc pm an cdv ct b)
    · cases r1 with
      | cons _ _ => exact .nil
      | nil =>
        cases r2 with
        | nil => exact .nil
        | cons rb r2 =>
          cases r2 with
          | nil => exact hrel rb
          | cons _ _ => exact .nil
  · exact absurd rfl e
def z2 {α : Type} (g : α → α → List α) (us ws : List α) : List α := match us, ws with
  | [], [b, c] => g b c
  | _, _ => []
theorem kf2 {K : PySem.W.Frag} {x qual : Str} {params : Arguments} {body : List Stmt} {scope : Scope} {f : Addr} {fd : FuncData} {ps ks : List Str} (F : FunD K x qual params body scope [] [] f fd) (g : {α : Type} → α → α → List α)
    (hrel : ∀ {b c : V} {b' c' : Value}, RelV b b' → RelV c c' → Vals (g b c) (g b' c')) (hk : ks.length = 2)
    (h : ∀ (kV doc pm : Value) (an : Option Addr) (cdv ct b c : Value), bindArgs (PySem.W.fnOf x qual params body scope .none kV doc pm an cdv ct) ⟨[], ks.zip [b, c]⟩ = pure (ps.zip (g b c))) : KBn K fd ps 0 ks (z2 g) (z2 g) := by
  obtain ⟨oc, od, dV, kV, doc, pm, an, cdv, ct, osl, rfl, lk, hcd, hD, hK⟩ := F.ex
  rcases hD with ⟨_, rfl⟩ | ⟨e, _⟩
  · refine ⟨fun s us ws X l1 l2 => ?_, fun r1 r2 => ?_⟩
    · rw [hk] at l2
      match us, ws, l1, l2 with
      | [], [b, c], _, _ => exact .of_eq (h kV doc pm an cdv ct b c)
    · cases r1 with
      | cons _ _ => exact .nil
      | nil =>
        cases r2 with
        | nil => exact .nil
        | cons rb r2 =>
          cases r2 with
          | nil => exact .nil
          | cons rc r2 =>
            cases r2 with
            | nil => exact hrel rb rc
            | cons _ _ => exact .nil
  · exact absurd rfl e
def z3 {α : Type} (g : α → α → α → List α) (us ws : List α) : List α := match us, ws with
  | [], [b, c, d] => g b c d
  | _, _ => []
theorem kf3 {K : PySem.W.Frag} {x qual : Str} {params : Arguments} {body : List Stmt} {scope : Scope} {f : Addr} {fd : FuncData} {ps ks : List Str} (F : FunD K x qual params body scope [] [] f fd) (g : {α : Type} → α → α → α → List α)
    (hrel : ∀ {b c d : V} {b' c' d' : Value}, RelV b b' → RelV c c' → RelV d d' → Vals (g b c d) (g b' c' d')) (hk : ks.length = 3)
    (h : ∀ (kV doc pm : Value) (an : Option Addr) (cdv ct b c d : Value), bindArgs (PySem.W.fnOf x qual params body scope .none kV doc pm an cdv ct) ⟨[], ks.zip [b, c, d]⟩ = pure (ps.zip (g b c d))) : KBn K fd ps 0 ks (z3 g) (z3 g) := by
  obtain ⟨oc, od, dV, kV, doc, pm, an, cdv, ct, osl, rfl, lk, hcd, hD, hK⟩ := F.ex
  rcases hD with ⟨_, rfl⟩ | ⟨e, _⟩
  · refine ⟨fun s us ws X l1 l2 => ?_, fun r1 r2 => ?_⟩
    · rw [hk] at l2
      match us, ws, l1, l2 with
      | [], [b, c, d], _, _ => exact .of_eq (h kV doc pm an cdv ct b c d)
    · cases r1 with
      | cons _ _ => exact .nil
      | nil =>
        cases r2 with
        | nil => exact .nil
        | cons rb r2 =>
          cases r2 with
          | nil => exact .nil
          | cons rc r2 =>
            cases r2 with
            | nil => exact .nil
            | cons rd r2 =>
              cases r2 with
              | nil => exact hrel rb rc rd
              | cons _ _ => exact .nil
  · exact absurd rfl e
/-- an if whose test does not matter -/
theorem if_any {tt : TT} {ta tb : TS} {D : Ends} {σ : L2.St} {H : Hp} (hc : ∀ QQ : Bool → Hp → Prop, (∀ b, QQ b H) → tt σ H QQ) (ha : ta D σ H) (hb : tb D σ H) : tIfS tt ta tb D σ H := hc _ fun b => by
  cases b
  · exact hb
  · exact ha
theorem if_dec {p : Prop} [Decidable p] {tt : TT} {ta tb : TS} {D : Ends} {σ : L2.St} {H : Hp} (hc : ∀ QQ : Bool → Hp → Prop, QQ (decide p) H → tt σ H QQ) (ha : p → ta D σ H) (hb : ¬ p → tb D σ H) : tIfS tt ta tb D σ H := hc _ (by
  by_cases h : p
  · simp only [decide_eq_true h, if_true]
    exact ha h
  · simp only [decide_eq_false h]
    exact hb h)
theorem it_any {c A B : Prop} [Decidable c] (a : A) (b : B) : if c then A else B := by
  split
  · exact a
  · exact b
/-! ### data stays -/
theorem sqT_same {K : PySem.W.Frag} {H H' : Hp} {a : Addr} {xs : List V} (h : SqT K H a xs) (e : Same H H') : SqT K H' a xs :=
  h.elim (fun h => .inl (h.elim (fun h => .inl (e _ _ h)) fun ⟨o, h⟩ => .inr ⟨o, e _ _ h⟩)) fun h => .inr h
mutual
theorem dp_same {K : PySem.W.Frag} {H H' : Hp} (e : Same H H') : ∀ (d : PyData) (v : V), Dp K H v d → Dp K H' v d
  | .none, _, h => by cases h; exact .non
  | .bool b, _, h => by cases h; exact .bl _
  | .int i, _, h => by cases h; exact .int _
  | .str x, _, h => by cases h; exact .str _
  | .list ds, _, h => by
    cases h with
    | lst a b => exact .lst (NbF.sqL_same a e) (dpAll_same e ds _ b)
  | .tuple ds, _, h => by
    cases h with
    | tup a b => exact .tup (sqT_same a e) (dpAll_same e ds _ b)
  | .dict _, _, h => by cases h
theorem dpAll_same {K : PySem.W.Frag} {H H' : Hp} (e : Same H H') : ∀ (ds : List PyData) (vs : List V), DpAll K H vs ds → DpAll K H' vs ds
  | [], _, h => by cases h; exact .nil
  | d :: ds, _, h => by
    cases h with
    | cons a b => exact .cons (dp_same e d _ a) (dpAll_same e ds _ b)
end
/-! ### windows as text -/
theorem low_bd (far z B : Int) (n : Str) : ∀ (es : List En) (k : Nat) (l : Int), 0 ≤ l → l ≤ B → (k : Int) + (es.length : Int) ≤ B → 0 ≤ low far (plc z n k es) l ∧ low far (plc z n k es) l ≤ B
  | [], _, l, h0, h1, _ => ⟨h0, h1⟩
  | e :: es, k, l, h0, h1, h2 => by
    rw [List.length_cons] at h2
    rw [plc_cons]
    split
    · rw [low_cons]
      refine low_bd far z B n es (k + 1) _ ?_ ?_ (by omega)
      · split <;> omega
      · split <;> omega
    · exact low_bd far z B n es (k + 1) l h0 h1 (by omega)
theorem high_bd (far z B : Int) (n : Str) : ∀ (es : List En) (k : Nat) (h : Int), 0 ≤ h → h ≤ B → 0 ≤ high far (plc z n k es) h ∧ high far (plc z n k es) h ≤ B
  | [], _, l, h0, h1 => ⟨h0, h1⟩
  | e :: es, k, l, h0, h1 => by
    rw [plc_cons]
    split
    · rw [high_cons]
      refine high_bd far z B n es (k + 1) _ ?_ ?_
      · split <;> omega
      · split <;> omega
    · exact high_bd far z B n es (k + 1) l h0 h1
theorem shw_non : Shw 8 0 .none := ⟨rfl, rfl, by decide +kernel, by decide +kernel, by decide⟩
theorem shw_win (z : Int) (es : List En) (n : Str) (far : Int) (h : es.length ≤ 200) : Shw 404 1 (winD z es n far) := by
  unfold winD
  split
  · exact shw_non.mono (by decide) (by decide)
  · have a := low_bd far z 200 n es 0 0 (Int.le_refl _) (by decide) (by omega)
    have b := high_bd far z 200 n es 0 (es.length : Int) (by omega) (by omega)
    refine shw_tup (W := 201) (n := 2) (fun d hd => ?_) (Nat.le_refl _)
    rcases List.mem_cons.mp hd with rfl | hd
    · exact shw_int (by omega) (by omega)
    · cases List.mem_singleton.mp hd
      exact shw_int (by omega) (by omega)
/-- a list of two such is shown -/
theorem shw_two {W D : Nat} {d : PyData} (h : Shw W D d) (hW : W ≤ 1000) (hD : D ≤ 50) : (PyData.list [d, d]).showable = true ∧ (PyData.list [d, d]).hasDict = false ∧ (PyData.list [d, d]).depth ≤ 60 ∧ (PyData.list [d, d]).shown.length ≤ sizeLine := by
  have s : Shw (2 * (W + 1)) (D + 1) (.list [d, d]) := shw_list (n := 2) (fun x hx => by
    rcases List.mem_cons.mp hx with rfl | hx
    · exact h
    · cases List.mem_singleton.mp hx
      exact h) (Nat.le_refl _)
  exact ⟨s.sh, s.nd, Nat.le_trans s.dp (by omega), s.fits (by omega)⟩
theorem ents_eq {K : PySem.W.Frag} {H : Hp} {a b : Addr} {ns : List Str} {es fs : List En} {Q : VK} (hc : Crew ns) (ha : EntsAt H a es) (hb : EntsAt H b fs) (he : EnsOk ns es) (hf : EnsOk ns fs) (q : Q (.bl (decide (es = fs))) H) : rEqD K (.ref a) (.ref b) H Q := by
  refine ⟨_, _, ha.dp, hb.dp, shaped_ens hc he, shaped_ens hc hf, ?_⟩
  show Q (.bl (PyData.eqvAll (es.map enD) (fs.map enD))) H
  rw [eqv_ens]
  exact q
theorem crew_eq {K : PySem.W.Frag} {H : Hp} {a b : Addr} {ns ms : List Str} {Q : VK} (ha : CrewAt H a ns) (hb : CrewAt H b ms) (he : Crew ns) (hf : Crew ms) (q : Q (.bl (decide (ns = ms))) H) : rEqD K (.ref a) (.ref b) H Q := by
  refine ⟨_, _, ha.dp, hb.dp, shaped_crew he, shaped_crew hf, ?_⟩
  show Q (.bl (PyData.eqvAll (ns.map PyData.str) (ms.map PyData.str))) H
  rw [eqv_strs]
  exact q
theorem ens_of {ns : List Str} {es : List En} (h : es.length ≤ 200) (k : ∀ e ∈ es, e.1 ∈ ns ∧ 0 ≤ e.2) : EnsOk ns es := ⟨h, fun e he => by
  obtain ⟨h1, h2⟩ := k e he
  unfold enOk
  rw [decide_eq_true h1, decide_eq_true h2]
  rfl⟩
theorem sqT_put {K : PySem.W.Frag} {H : Hp} {a L : Addr} {xs ys : List V} {o : HO} (h : SqT K H a xs) (hL : H L = some (.lst ys)) : SqT K (upd H L o) a xs := by
  rcases h with (h | ⟨u, h⟩) | h
  · exact .inl (.inl (upd_keep h (ne_of h hL (by simp))))
  · exact .inl (.inr ⟨u, upd_keep h (ne_of h hL (by simp))⟩)
  · exact .inr h
theorem dp_win {K : PySem.W.Frag} {H : Hp} {L : Addr} {ys : List V} {o : HO} {v : V} {z far : Int} {es : List En} {n : Str} (hL : H L = some (.lst ys)) (h : Dp K H v (winD z es n far)) : Dp K (upd H L o) v (winD z es n far) := by
  unfold winD at h ⊢
  split at h
  · rename_i g
    rw [if_pos g]
    cases h
    exact .non
  · rename_i g
    rw [if_neg g]
    cases h with
    | tup a b =>
      refine .tup (sqT_put a hL) ?_
      cases b with
      | cons b1 b2 =>
        cases b1
        cases b2 with
        | cons b1 b2 =>
          cases b1
          cases b2
          exact .cons (.int _) (.cons (.int _) .nil)
theorem dps_win {K : PySem.W.Frag} {H : Hp} {L : Addr} {ys : List V} {o : HO} {z : Int} {es : List En} (hL : H L = some (.lst ys)) : ∀ {as : List En} {vs : List V}, DpAll K H vs (as.map fun e => winD z es e.1 e.2) → DpAll K (upd H L o) vs (as.map fun e => winD z es e.1 e.2)
  | [], _, h => by cases h; exact .nil
  | a :: as, _, h => by
    cases h with
    | cons x y => exact .cons (dp_win hL x) (dps_win hL y)
theorem dps_snoc {K : PySem.W.Frag} {H : Hp} {v : V} {d : PyData} (h : Dp K H v d) : ∀ {ds : List PyData} {vs : List V}, DpAll K H vs ds → DpAll K H (vs ++ [v]) (ds ++ [d])
  | [], _, k => by cases k; exact .cons h .nil
  | _ :: _, _, k => by
    cases k with
    | cons x y => exact .cons x (dps_snoc h y)
/-! ### a drawn history -/
def HeldOk (H : Hp) (dh : Addr) (z : Int) (j : Nat) : Prop := ∃ kvs : List (Key × V), H dh = some (.dK kvs) ∧ kvs.length ≤ j ∧ ∀ n v, valV kvs (.inr n) = some v → ∃ t o d, v = .ref t ∧ H t = some (.tup [.int o, .int d]) ∧ 0 ≤ o ∧ o ≤ 10 ^ 104 ∧ 0 ≤ d ∧ d ≤ z
structure StoryAt (H0 H : Hp) (fa s tk dh : Addr) (z m : Int) (ns : List Str) (i j : Nat) : Prop where
  st : Stp fa H0 H
  fs : H0 s = none
  ft : H0 tk = none
  fd : H0 dh = none
  nf : s ≠ fa ∧ tk ≠ fa ∧ dh ≠ fa
  nt : s ≠ tk
  en : ∃ ts es, H s = some (.lst (ts.map V.ref)) ∧ Ents H ts es ∧ (es.length : Int) ≤ m ∧ ∀ e ∈ es, e.1 ∈ ns ∧ 0 ≤ e.2
  tk : ∃ xs, H tk = some (.lst xs) ∧ xs.length ≤ i
  hd : HeldOk H dh z j
section
variable {H0 H H' : Hp} {fa s tk dh : Addr} {z m : Int} {ns : List Str} {i j : Nat}
theorem StoryAt.stp (S : StoryAt H0 H fa s tk dh z m ns i j) (e : Stp fa H H') : StoryAt H0 H' fa s tk dh z m ns i j := by
  obtain ⟨ts, es, a1, a2, a3, a4⟩ := S.en
  obtain ⟨xs, b1, b2⟩ := S.tk
  obtain ⟨kvs, c1, c2, c3⟩ := S.hd
  have kt : ∀ t xs, H t = some (.tup xs) → H' t = some (.tup xs) := fun t xs h => e.kp _ _ (ne_tup S.st.fd h) h
  refine ⟨S.st.trans e, S.fs, S.ft, S.fd, S.nf, S.nt, ⟨ts, es, e.kp _ _ S.nf.1 a1, a2.imp kt, a3, a4⟩, ⟨xs, e.kp _ _ S.nf.2.1 b1, b2⟩, ⟨kvs, e.kp _ _ S.nf.2.2 c1, c2, fun n v h => ?_⟩⟩
  obtain ⟨t, o, d, h1, h2, h3⟩ := c3 n v h
  exact ⟨t, o, d, h1, kt _ _ h2, h3⟩
theorem StoryAt.up (S : StoryAt H0 H fa s tk dh z m ns i j) {i' j' : Nat} (hi : i ≤ i') (hj : j ≤ j') : StoryAt H0 H fa s tk dh z m ns i' j' := by
  obtain ⟨xs, b1, b2⟩ := S.tk
  obtain ⟨kvs, c1, c2, c3⟩ := S.hd
  exact ⟨S.st, S.fs, S.ft, S.fd, S.nf, S.nt, S.en, ⟨xs, b1, Nat.le_trans b2 hi⟩, ⟨kvs, c1, Nat.le_trans c2 hj, c3⟩⟩
theorem StoryAt.same (S : StoryAt H0 H fa s tk dh z m ns i j) (e : Same H H') : StoryAt H0 H' fa s tk dh z m ns i j := S.stp (Stp.of e S.st.fd)
theorem StoryAt.take (S : StoryAt H0 H fa s tk dh z m ns i j) {xs : List V} (h : H tk = some (.lst xs)) (v : V) : StoryAt H0 (upd H tk (.lst (xs ++ [v]))) fa s tk dh z m ns (i + 1) j := by
  obtain ⟨ts, es, a1, a2, a3, a4⟩ := S.en
  obtain ⟨xs', b1, b2⟩ := S.tk
  obtain ⟨kvs, c1, c2, c3⟩ := S.hd
  rw [h] at b1
  cases b1
  have kt : ∀ t ys, H t = some (.tup ys) → upd H tk (.lst (xs ++ [v])) t = some (.tup ys) := fun t ys g => upd_keep g (ne_of g h (by simp))
  refine ⟨S.st.mut S.ft S.nf.2.1, S.fs, S.ft, S.fd, S.nf, S.nt, ⟨ts, es, upd_keep a1 S.nt, a2.imp kt, a3, a4⟩, ⟨_, upd_same, by rw [List.length_append, List.length_singleton]; omega⟩, ⟨kvs, upd_keep c1 (ne_of c1 h (by simp)), c2, fun n v h => ?_⟩⟩
  obtain ⟨t, o, d, h1, h2, h3⟩ := c3 n v h
  exact ⟨t, o, d, h1, kt _ _ h2, h3⟩
theorem StoryAt.put (S : StoryAt H0 H fa s tk dh z m ns i j) {kvs : List (Key × V)} (h : H dh = some (.dK kvs)) (n : Str) {t : Addr} {o d : Int} (ht : H t = some (.tup [.int o, .int d])) (ho : 0 ≤ o) (ho1 : o ≤ 10 ^ 104) (hd0 : 0 ≤ d) (hd1 : d ≤ z) :
    StoryAt H0 (upd H dh (.dK (putK kvs (.inr n) (.ref t)))) fa s tk dh z m ns i (j + 1) := by
  obtain ⟨ts, es, a1, a2, a3, a4⟩ := S.en
  obtain ⟨xs', b1, b2⟩ := S.tk
  obtain ⟨kv2, c1, c2, c3⟩ := S.hd
  rw [h] at c1
  cases c1
  have kt : ∀ t ys, H t = some (.tup ys) → upd H dh (.dK (putK kvs (.inr n) (.ref t))) t = some (.tup ys) := fun t ys g => upd_keep g (ne_of g h (by simp))
  have kt' : ∀ t' ys, H t' = some (.tup ys) → upd H dh (.dK (putK kvs (.inr n) (.ref t))) t' = some (.tup ys) := fun t' ys g => upd_keep g (ne_of g h (by simp))
  refine ⟨S.st.mut S.fd S.nf.2.2, S.fs, S.ft, S.fd, S.nf, S.nt, ⟨ts, es, upd_keep a1 (ne_of a1 h (by simp)), a2.imp kt', a3, a4⟩, ⟨_, upd_keep b1 (ne_of b1 h (by simp)), b2⟩, ⟨_, upd_same, Nat.le_trans (putK_le _ _ _) (by omega), fun n' v hv => ?_⟩⟩
  rw [valV_put] at hv
  by_cases g : (Sum.inr n' : Key) = .inr n
  · rw [if_pos g] at hv
    cases hv
    exact ⟨t, o, d, rfl, kt' _ _ ht, ho, ho1, hd0, hd1⟩
  · rw [if_neg g] at hv
    obtain ⟨t', o', d', h1, h2, h3⟩ := c3 n' v hv
    exact ⟨t', o', d', h1, kt' _ _ h2, h3⟩
theorem StoryAt.show (S : StoryAt H0 H fa s tk dh z m ns i j) {xs : List V} (h : H s = some (.lst xs)) (hl : (xs.length : Int) < m) {t : Addr} {e : En} (ht : H t = some (.tup [.str e.1, .int e.2])) (he : e.1 ∈ ns) (h0 : 0 ≤ e.2) :
    StoryAt H0 (upd H s (.lst (xs ++ [.ref t]))) fa s tk dh z m ns i j := by
  obtain ⟨ts, es, a1, a2, a3, a4⟩ := S.en
  obtain ⟨xs', b1, b2⟩ := S.tk
  obtain ⟨kvs, c1, c2, c3⟩ := S.hd
  rw [h] at a1
  cases a1
  have kt : ∀ t' ys, H t' = some (.tup ys) → upd H s (.lst (ts.map V.ref ++ [.ref t])) t' = some (.tup ys) := fun t' ys g => upd_keep g (ne_of g h (by simp))
  have ln := a2.len
  rw [List.length_map] at hl
  refine ⟨S.st.mut S.fs S.nf.1, S.fs, S.ft, S.fd, S.nf, S.nt, ⟨ts ++ [t], es ++ [e], by rw [upd_same, List.map_append]; rfl, Ents.app (kt _ _ ht) (a2.imp kt), by rw [List.length_append, List.length_singleton]; omega, fun x hx => ?_⟩, ⟨_, upd_keep b1 S.nt.symm, b2⟩, ⟨kvs, upd_keep c1 (ne_of c1 h (by simp)), c2, fun n v hv => ?_⟩⟩
  · rcases List.mem_append.mp hx with g | g
    · exact a4 x g
    · rw [List.mem_singleton.mp g]
      exact ⟨he, h0⟩
  · obtain ⟨t', o, d, h1, h2, h3⟩ := c3 n v hv
    exact ⟨t', o, d, h1, kt _ _ h2, h3⟩
end
theorem mulW_ok {i j : Int} (h0 : 0 ≤ i) (h : i ≤ 10 ^ 200) (g0 : 0 ≤ j) (g : j ≤ 10 ^ 200) : CMulW i j := by
  have a : ∀ n : Nat, n ≤ 10 ^ 200 → n.log2 < 700 := fun n hn => by
    by_cases h0 : n = 0
    · rw [h0]; decide
    · exact (Nat.log2_lt h0).mpr (Nat.lt_of_le_of_lt hn (by decide))
  have b1 := a i.natAbs (by omega)
  have b2 := a j.natAbs (by omega)
  unfold CMulW
  omega
def sp_law_story0 (_ : PySem.W.Frag) : Sp := fun vs H Q _ => ∃ (fa c : Addr) (z m f : Int) (ns : List Str), vs = [.ref fa, .int z, .ref c, .int m, .int f] ∧ Feed H fa ∧ CrewAt H c ns ∧ Crew ns ∧ SizeOk z ∧ 0 ≤ m ∧ m ≤ 200 ∧ 0 < f ∧ f ≤ 10 ^ 100 ∧
  ∀ r s t es H', H r = none → Stp fa H H' → H' r = some (.lst [.ref s, .ref t]) → EntsAt H' s es → (es.length : Int) ≤ m → (∀ e ∈ es, e.1 ∈ ns ∧ 0 ≤ e.2) → Q (.ref r) H'
end NbZ

set_option Elab.async false
set_option linter.all false
set_option maxRecDepth 100000
set_option maxHeartbeats 4000000
/-! sorted(..) of a dict with whole numbers as keys, 64 and more too. -/
namespace NbY
open PySem PySem.Spec PySem.Calls PyProof.Rows L2 Nb NbE NbS NbF NbP NbK NbL NbU NbX NbW NbV NbZ
/-- sorted(d) -/
def rSortDI : List V → Hp → VK → Prop := fun xs H Q => ∃ (a : Addr) (kvs : List (Key × V)) (ks : List Int), xs = [.ref a] ∧ Rd H a (.dK kvs) ∧ kvs.map (·.1) = ks.map Sum.inl ∧ ks.Nodup ∧ ks.length ≤ 4000 ∧
    ∀ (ys : List Int) (p : Addr), ys.Perm ks → ys.Pairwise (· < ·) → H p = none → Q (.ref p) (upd H p (.lst (ys.map V.int)))
theorem cr_sortDI {X : Cx} (hcalm : X.calm = true) : CallR X (.builtin "sorted") rSortDI := by
  intro pins s σ H xs us Q I r q
  obtain ⟨a, kvs, ks, ex, hd, hks, nd, few, q⟩ := q
  subst ex
  obtain ⟨u, eu, rx⟩ := vals1 r
  subst eu
  cases rx
  obtain ⟨z, lo, vs, rel, dd⟩ := dk_rd I.hok hd
  obtain ⟨ep, hat⟩ := dd.dictAt
  have hkeys : vs.map (·.1) = ks.map Sum.inl := rel.keys.symm.trans hks
  have hl : vs.length = ks.length := by
    have e := congrArg List.length hkeys
    rw [List.length_map, List.length_map] at e
    exact e
  have h16 : vs.length ≤ sizeLine := by rw [hl]; exact sz_le (by omega)
  refine Calls.call_function_entry PyProof.Rows.kind_sorted PyProof.Rows.plain_sorted PyProof.Rows.entry_sorted (PyProof.Rows.args_sorted1 _) ?_
  unfold Builtin.«sorted»
  refine wpAny_bind (m := checkCount "sorted" 1 1 _) (wpAny_pure ?_)
  refine wpAny_bind (PySem.W.kdu_collect (A := X.A.in1) (PySem.W.kdl_dict (knd := mixKind X.prog X.w) (kvs := vs) (ep := ep) lo) (I.ok.hd hcalm) hat h16 fun h' tk acc hk hacc => ?_)
  have hal : acc.toList.length = ks.length := by rw [Array.length_toList, hacc.1, hl]
  have hS : IntsAre acc.toList ks := ints_each hal fun j v e => by
    obtain ⟨k, x, e1, e2⟩ := hacc.2 j v (by rw [← Array.getElem?_toList]; exact e)
    have e3 : (vs.map (·.1))[j]? = some k := by rw [List.getElem?_map, e1]; rfl
    rw [hkeys, List.getElem?_map] at e3
    cases e4 : ks[j]? with
    | none => rw [e4] at e3; cases e3
    | some y =>
      rw [e4] at e3
      have e5 : Sum.inl y = k := Option.some.inj e3
      subst e5
      rcases keyIs_shape (show keyIs (Sum.inl y) v = true from e2) with ⟨i, t, ek, ev⟩ | ⟨z, t, ek, ev⟩
      · cases ek
        exact ⟨y, t, rfl, ev⟩
      · cases ek
  have I1 : Inv X pins σ H { s with heap := h', toks := tk } := I.kept hk
  refine wpAny_bind (wpAny_newList ?_ (by rw [hal]; exact sz_le (by omega)))
  have hoL : (h'.push (seqObj "list" acc.toList.toArray 0)).get? h'.objs.size = some (seqObj "list" acc.toList.toArray 0) := Heap.get?_push_size _ rfl
  show wpAny _ _ _ _ _ { s with heap := h'.push (seqObj "list" acc.toList.toArray 0), toks := tk }
  refine wpAny_bind (wpAny_holding (wpAny_call_entry slot_list_sort ⟨_, hoL, rfl⟩ entry_list_sort (SrtO.list_sort_ord SrtO.swo_int hoL (by rw [hal]; exact sz_le (by omega)) (fun h2 => SrtO.ints_sortable hS h2) fun out b1 b2 => ⟨_, rfl, ?_⟩) (args_list_sort _)))
  obtain ⟨a1, a2, a3⟩ := SrtO.ints_out hS b1 b2
  obtain ⟨e', he'⟩ := sortedHeap_at (vs := acc.toList) (out := out.toArray) hoL
  have hlen : ((out.map SrtO.iv).map V.int).length ≤ sizeLine := by
    rw [List.length_map, a2.length_eq]
    exact sz_le (by omega)
  refine wpAny_pure ⟨_, rfl, .ref h'.objs.size, upd H h'.objs.size (.lst ((out.map SrtO.iv).map V.int)), I1.laid (t' := tk) (fun b u e => ?_) (Nat.le_refl _)
    (show ObjOk X.prog X.w _ _ _ (.lst ((out.map SrtO.iv).map V.int)) from ⟨hlen, out, e', vals_of_ints a1, he'⟩), rfl, q _ _ a2 (lt_of_le_nodup _ a3 (a2.nodup_iff.mpr nd)) (I1.hok.fresh (Nat.le_refl _))⟩
  have hb : b < h'.objs.size := Heap.lt_size e
  rw [PyProof.Rows.sortedHeap_old (Nat.ne_of_lt hb) (by rw [size_push']; exact Nat.lt_succ_of_lt hb)]
  exact Heap.get?_push_of_some _ e
end NbY

set_option Elab.async false
set_option linter.all false
set_option maxRecDepth 100000
set_option maxHeartbeats 4000000
/-! What the walks of the program answer, as functions of what a log holds; the promises of its defs. -/
namespace NbM
open PySem PySem.Spec PyProof.Rows L2 Nb NbE NbS NbF NbP NbK NbL NbX NbW NbZ
def winO (z : Int) (es : List En) (n : Str) (q : Int) : Option (Int × Int) := if (hold z es q).any (fun x => x != n) then none else some (low q (plc z n 0 es) 0, high q (plc z n 0 es) (es.length : Int))
theorem winD_eq (z : Int) (es : List En) (n : Str) (q : Int) : winD z es n q = duD (winO z es n q) := by
  unfold winD winO
  split <;> rfl
/-- the windows of all servers that have one -/
def wins (z : Int) (es : List En) (ns : List Str) (q : Int) : List (Int × Int) := ns.filterMap fun n => winO z es n q
def p2D (p : Int × Int) : PyData := .tuple [.int p.1, .int p.2]
/-- the least slot from s on in some window -/
def slotF (s : Int) : List (Int × Int) → Int → Int
  | [], f => f
  | p :: r, f => slotF s r (if max p.1 s ≤ p.2 then min f (max p.1 s) else f)
/-- the greatest slot up to s in some window -/
def slotU (s : Int) : List (Int × Int) → Int → Int
  | [], f => f
  | p :: r, f => slotU s r (if p.1 ≤ min p.2 s then max f (min p.2 s) else f)
def sFrom (z : Int) (ns : List Str) (es : List En) (q s : Int) : Int := slotF s (wins z es ns q) ((es.length : Int) + 1)
def sUpTo (z : Int) (ns : List Str) (es : List En) (q s : Int) : Int := slotU s (wins z es ns q) (-1)
/-- the blocks that begin a span -/
def startsG : Int → List Int → List Int
  | _, [] => []
  | f, b :: r => (if f < b then [f, b] else [b]) ++ startsG (b + 1) r
def walkE (f : Int → Int → Int) (m : Int) : Int → List Int → List Int
  | _, [] => []
  | s, q :: r => if m < f q s then [f q s] else f q s :: walkE f m (f q s) r
def walkL (f : Int → Int → Int) : Int → List Int → List Int
  | _, [] => []
  | s, q :: r => f q s :: walkL f (f q s) r
def pushG : Int → List (Int × Int) → List (Int × Int)
  | _, [] => []
  | f, p :: r => (if f < p.2 then [p] else []) ++ pushG p.2 r
/-! ### the blocks that are seen -/
def insI (q : Int) : List Int → List Int
  | [] => [q]
  | y :: r => if q < y then q :: y :: r else if q = y then y :: r else y :: insI q r
def seen (z : Int) (es : List En) : List Int := es.foldr (fun e r => insI (e.2 / z) r) []
theorem mem_insI (q x : Int) : ∀ ys : List Int, x ∈ insI q ys ↔ x = q ∨ x ∈ ys
  | [] => by simp [insI]
  | y :: r => by
    have ih := mem_insI q x r
    unfold insI
    split
    · simp
    · split
      · rename_i h
        subst h
        simp
      · simp only [List.mem_cons, ih]
        constructor
        · rintro (h | h | h)
          · exact .inr (.inl h)
          · exact .inl h
          · exact .inr (.inr h)
        · rintro (h | h | h)
          · exact .inr (.inl h)
          · exact .inl h
          · exact .inr (.inr h)
theorem lt_insI (q : Int) : ∀ {ys : List Int}, ys.Pairwise (· < ·) → (insI q ys).Pairwise (· < ·)
  | [], _ => by simp [insI]
  | y :: r, h => by
    have h1 := List.pairwise_cons.mp h
    have ih := lt_insI q h1.2
    unfold insI
    split
    · rename_i g
      refine List.pairwise_cons.mpr ⟨fun x hx => ?_, h⟩
      rcases List.mem_cons.mp hx with rfl | hx
      · exact g
      · exact Int.lt_trans g (h1.1 x hx)
    · split
      · exact h
      · rename_i g1 g2
        refine List.pairwise_cons.mpr ⟨fun x hx => ?_, ih⟩
        rcases (mem_insI q x r).mp hx with rfl | hx
        · omega
        · exact h1.1 x hx
theorem seen_cons (z : Int) (e : En) (es : List En) : seen z (e :: es) = insI (e.2 / z) (seen z es) := rfl
theorem mem_seen (z x : Int) : ∀ es : List En, x ∈ seen z es ↔ ∃ e ∈ es, e.2 / z = x
  | [] => by simp [seen]
  | e :: es => by
    rw [seen_cons, mem_insI, mem_seen z x es]
    constructor
    · rintro (h | ⟨e', h1, h2⟩)
      · exact ⟨e, List.mem_cons_self, h.symm⟩
      · exact ⟨e', List.mem_cons_of_mem _ h1, h2⟩
    · rintro ⟨e', h1, h2⟩
      rcases List.mem_cons.mp h1 with rfl | h1
      · exact .inl h2.symm
      · exact .inr ⟨e', h1, h2⟩
theorem lt_seen (z : Int) : ∀ es : List En, (seen z es).Pairwise (· < ·)
  | [] => List.Pairwise.nil
  | e :: es => lt_insI _ (lt_seen z es)
theorem eq_of_lt : ∀ {xs ys : List Int}, xs.Pairwise (· < ·) → ys.Pairwise (· < ·) → (∀ q, q ∈ xs ↔ q ∈ ys) → xs = ys
  | [], [], _, _, _ => rfl
  | [], y :: ys, _, _, h => absurd ((h y).mpr List.mem_cons_self) (by simp)
  | x :: xs, [], _, _, h => absurd ((h x).mp List.mem_cons_self) (by simp)
  | x :: xs, y :: ys, hx, hy, h => by
    have h1 := List.pairwise_cons.mp hx
    have h2 := List.pairwise_cons.mp hy
    have e : x = y := by
      rcases List.mem_cons.mp ((h x).mp List.mem_cons_self) with e | m
      · exact e
      · rcases List.mem_cons.mp ((h y).mpr List.mem_cons_self) with e | m'
        · exact e.symm
        · have := h1.1 _ m'
          have := h2.1 _ m
          omega
    subst e
    rw [eq_of_lt h1.2 h2.2 fun q => ?_]
    constructor
    · intro hq
      rcases List.mem_cons.mp ((h q).mp (List.mem_cons_of_mem _ hq)) with e | m
      · have := h1.1 q hq
        omega
      · exact m
    · intro hq
      rcases List.mem_cons.mp ((h q).mpr (List.mem_cons_of_mem _ hq)) with e | m
      · have := h2.1 q hq
        omega
      · exact m
theorem hold_ne {z q : Int} {es : List En} : hold z es q ≠ [] ↔ ∃ e ∈ es, e.2 / z = q := by
  unfold hold
  rw [ne_eq, List.map_eq_nil_iff, List.filter_eq_nil_iff]
  constructor
  · intro h
    by_cases g : ∃ e ∈ es, e.2 / z = q
    · exact g
    · exact absurd (fun e he => by simpa using fun k => g ⟨e, he, k⟩) h
  · rintro ⟨e, h1, h2⟩ h
    exact h e h1 (decide_eq_true h2)
/-- the keys of the holders, sorted -/
theorem Dicts.seen {H : Hp} {dh dp : Addr} {z : Int} {ns : List Str} {es es' : List En} {own : Addr → Option (Int ⊕ Str)} (D : Dicts H dh dp z ns es es' own) :
    ∃ (kvs : List (Key × V)) (ks : List Int), H dh = some (.dK kvs) ∧ kvs.map (·.1) = ks.map Sum.inl ∧ ks.Nodup ∧ ks.length ≤ es.length ∧ ∀ ys : List Int, ys.Perm ks → ys.Pairwise (· < ·) → ys = NbM.seen z es := by
  obtain ⟨kvs, h1, h2, h3⟩ := D.hd
  obtain ⟨⟨ks, g1, g2⟩, g3⟩ := D.ky kvs h1
  refine ⟨kvs, ks, h1, g1, g2, by have := congrArg List.length g1; rw [List.length_map, List.length_map] at this; omega, fun ys hp hl => eq_of_lt hl (lt_seen z es) fun q => ?_⟩
  rw [hp.mem_iff, mem_seen]
  have hk : q ∈ ks ↔ valV kvs (.inl q) ≠ none := by
    have h0 : (valV kvs (.inl q) ≠ none) ↔ (valV kvs (.inl q)).isSome = true := by
      cases valV kvs (.inl q) <;> simp
    rw [h0, ← valV_any, List.any_eq_true]
    constructor
    · intro h
      have hm : (Sum.inl q : Key) ∈ kvs.map (·.1) := by
        rw [g1]
        exact List.mem_map_of_mem h
      obtain ⟨kv, a, b⟩ := List.mem_map.mp hm
      exact ⟨kv, a, decide_eq_true b⟩
    · rintro ⟨kv, a, b⟩
      have hm : (Sum.inl q : Key) ∈ ks.map Sum.inl := by
        rw [← g1, ← of_decide_eq_true b]
        exact List.mem_map_of_mem a
      obtain ⟨x, c, d⟩ := List.mem_map.mp hm
      cases d
      exact c
  rw [hk]
  refine ⟨g3 q, fun hm hn => ?_⟩
  rcases h3 q with ⟨a, b⟩ | ⟨a, b, _⟩
  · exact hold_ne.mpr hm b
  · rw [b] at hn
    cases hn
/-! ### promises -/
def starts (z : Int) (es : List En) : List Int := startsG 0 (seen z es)
def earl (z : Int) (ns : List Str) (es : List En) : List Int := walkE (sFrom z ns es) (es.length : Int) 0 (starts z es)
def late (z : Int) (ns : List Str) (es : List En) : List Int := (walkL (sUpTo z ns es) (es.length : Int) (starts z es).reverse).reverse
def sp_Sight_windows_of (K : PySem.W.Frag) : Sp := fun vs H Q _ => ∃ (p : Addr) (z : Int) (ns : List Str) (es : List En) (q : Int), vs = [.ref p, .int q] ∧ SightAt K H p z ns es ∧ ∀ a vs' H', H a = none → Same H H' → H' a = some (.lst vs') → DpAll K H' vs' ((wins z es ns q).map p2D) → Q (.ref a) H'
def sp_Sight_slot_from (K : PySem.W.Frag) : Sp := fun vs H Q _ => ∃ (p : Addr) (z : Int) (ns : List Str) (es : List En) (q s : Int), vs = [.ref p, .int q, .int s] ∧ SightAt K H p z ns es ∧ ∀ H', Same H H' → Q (.int (sFrom z ns es q s)) H'
def sp_Sight_slot_up_to (K : PySem.W.Frag) : Sp := fun vs H Q _ => ∃ (p : Addr) (z : Int) (ns : List Str) (es : List En) (q s : Int), vs = [.ref p, .int q, .int s] ∧ SightAt K H p z ns es ∧ ∀ H', Same H H' → Q (.int (sUpTo z ns es q s)) H'
/-- a new list of whole numbers -/
def NewInts (H : Hp) (Q : VK) (xs : List Int) : Prop := ∀ a H', H a = none → Same H H' → H' a = some (.lst (xs.map V.int)) → Q (.ref a) H'
def sp_Sight_span_starts (K : PySem.W.Frag) : Sp := fun vs H Q _ => ∃ (p : Addr) (z : Int) (ns : List Str) (es : List En), vs = [.ref p] ∧ SightAt K H p z ns es ∧ NewInts H Q (starts z es)
def sp_Sight_earliest_slots (K : PySem.W.Frag) : Sp := fun vs H Q _ => ∃ (p : Addr) (z : Int) (ns : List Str) (es : List En), vs = [.ref p] ∧ SightAt K H p z ns es ∧ NewInts H Q (earl z ns es)
def sp_Sight_latest_slots (K : PySem.W.Frag) : Sp := fun vs H Q _ => ∃ (p : Addr) (z : Int) (ns : List Str) (es : List En), vs = [.ref p] ∧ SightAt K H p z ns es ∧ NewInts H Q (late z ns es)
def sp_Sight_span_index (K : PySem.W.Frag) : Sp := fun vs H Q _ => ∃ (p : Addr) (z : Int) (ns : List Str) (es : List En) (q : Int), vs = [.ref p, .int q] ∧ SightAt K H p z ns es ∧ ∀ H', Same H H' → Q (.int ((((starts z es).filter fun b => decide (b ≤ q)).length : Int) - 1)) H'
/-! ### data that holds no list stays when a list changes -/
theorem dp_du {K : PySem.W.Frag} {H : Hp} {L : Addr} {ys : List V} {o : HO} {v : V} {w : Option (Int × Int)} (hL : H L = some (.lst ys)) (h : Dp K H v (duD w)) : Dp K (upd H L o) v (duD w) := by
  cases w with
  | none =>
    cases h
    exact .non
  | some p =>
    obtain ⟨i, j⟩ := p
    cases h with
    | tup a b =>
      refine .tup (sqT_put a hL) ?_
      cases b with
      | cons b1 b2 =>
        cases b1
        cases b2 with
        | cons b1 b2 =>
          cases b1
          cases b2
          exact .cons (.int _) (.cons (.int _) .nil)
theorem dps_du {K : PySem.W.Frag} {H : Hp} {L : Addr} {ys : List V} {o : HO} (hL : H L = some (.lst ys)) : ∀ {ws : List (Option (Int × Int))} {vs : List V}, DpAll K H vs (ws.map duD) → DpAll K (upd H L o) vs (ws.map duD)
  | [], _, h => by cases h; exact .nil
  | a :: as, _, h => by
    cases h with
    | cons x y => exact .cons (dp_du hL x) (dps_du hL y)
theorem dps_pr {K : PySem.W.Frag} {H : Hp} {L : Addr} {ys : List V} {o : HO} (hL : H L = some (.lst ys)) {ws : List (Int × Int)} {vs : List V} (h : DpAll K H vs (ws.map p2D)) : DpAll K (upd H L o) vs (ws.map p2D) := by
  have e : ws.map p2D = (ws.map some).map duD := by
    rw [List.map_map]
    rfl
  rw [e] at h ⊢
  exact dps_du hL h
theorem dps_len {K : PySem.W.Frag} {H : Hp} : ∀ {ds : List PyData} {vs : List V}, DpAll K H vs ds → vs.length = ds.length
  | [], _, h => by cases h; rfl
  | _ :: _, _, h => by
    cases h with
    | cons x y => rw [List.length_cons, List.length_cons, dps_len y]
theorem dps_get {K : PySem.W.Frag} {H : Hp} : ∀ {ds : List PyData} {vs : List V} {i : Nat} {v : V}, DpAll K H vs ds → vs[i]? = some v → ∃ d, ds[i]? = some d ∧ Dp K H v d
  | [], _, i, v, h, g => by cases h; simp at g
  | d :: _, _, 0, v, h, g => by
    cases h with
    | cons x y =>
      simp at g
      subst g
      exact ⟨d, rfl, x⟩
  | _ :: _, _, i + 1, v, h, g => by
    cases h with
    | cons x y =>
      obtain ⟨d, h1, h2⟩ := dps_get y (by simpa using g)
      exact ⟨d, by simpa using h1, h2⟩
/-- a pair of whole numbers, unpacked -/
theorem dp_pr {K : PySem.W.Frag} {H : Hp} {v : V} {p : Int × Int} (h : Dp K H v (p2D p)) : ∃ t, v = .ref t ∧ SqT K H t [.int p.1, .int p.2] := by
  cases h with
  | tup a b =>
    cases b with
    | cons b1 b2 =>
      cases b1
      cases b2 with
      | cons b1 b2 =>
        cases b1
        cases b2
        exact ⟨_, rfl, a⟩
theorem fsS_noM {m : Str} (h1 : (m == ("names" : Str)) = false) (h2 : (m == ("last_slot" : Str)) = false) (h3 : (m == ("holders" : Str)) = false) (h4 : (m == ("places" : Str)) = false) (nl : Addr) (k : Int) (dh dp : Addr) : (fsS nl k dh dp).lookup m = none := by
  unfold fsS
  rw [List.lookup_cons, h1, List.lookup_cons, h2, List.lookup_cons, h3, List.lookup_cons, h4]
  rfl
theorem drop_one {α : Type} {xs : List α} {i : Nat} {x : α} (h : xs[i]? = some x) : xs.drop i = x :: xs.drop (i + 1) := by
  obtain ⟨hl, e⟩ := List.getElem?_eq_some_iff.mp h
  rw [List.drop_eq_getElem_cons hl, e]
theorem startsG_cons (f b : Int) (r : List Int) : startsG f (b :: r) = (if f < b then [f, b] else [b]) ++ startsG (b + 1) r := rfl
theorem walkE_cons (f : Int → Int → Int) (m s q : Int) (r : List Int) : walkE f m s (q :: r) = if m < f q s then [f q s] else f q s :: walkE f m (f q s) r := rfl
theorem walkL_cons (f : Int → Int → Int) (s q : Int) (r : List Int) : walkL f s (q :: r) = f q s :: walkL f (f q s) r := rfl
theorem slotF_cons (s : Int) (p : Int × Int) (r : List (Int × Int)) (f : Int) : slotF s (p :: r) f = slotF s r (if max p.1 s ≤ p.2 then min f (max p.1 s) else f) := rfl
theorem slotU_cons (s : Int) (p : Int × Int) (r : List (Int × Int)) (f : Int) : slotU s (p :: r) f = slotU s r (if p.1 ≤ min p.2 s then max f (min p.2 s) else f) := rfl
theorem gt_max (a b : Int) : (if b > a then b else a) = max a b := by
  split <;> omega
theorem lt_min (a b : Int) : (if b < a then b else a) = min a b := by
  split <;> omega
theorem len_wins (z : Int) (es : List En) (ns : List Str) (q : Int) : (wins z es ns q).length ≤ ns.length := List.length_filterMap_le _ _
theorem len_startsG : ∀ (xs : List Int) (f : Int), (startsG f xs).length ≤ 2 * xs.length
  | [], _ => Nat.le_refl _
  | b :: r, f => by
    have ih := len_startsG r (b + 1)
    rw [startsG_cons, List.length_append, List.length_cons]
    split <;> simp <;> omega
theorem len_insI (q : Int) : ∀ ys : List Int, (insI q ys).length ≤ ys.length + 1
  | [] => Nat.le_refl _
  | y :: r => by
    have ih := len_insI q r
    unfold insI
    split
    · simp
    · split
      · simp
      · simp only [List.length_cons]
        omega
theorem len_seen (z : Int) : ∀ es : List En, (seen z es).length ≤ es.length
  | [] => Nat.le_refl _
  | e :: es => by
    have := len_insI (e.2 / z) (seen z es)
    have := len_seen z es
    rw [seen_cons, List.length_cons]
    omega
theorem len_starts (z : Int) (es : List En) : (starts z es).length ≤ 2 * es.length := by
  have := len_startsG (seen z es) 0
  have := len_seen z es
  unfold starts
  omega
/-! ### two entries that bar one another -/
def twO : List En → List En → Option (Nat × Nat)
  | _, [] => none
  | pre, e :: r => match pre.findIdx? (fun x => decide (x.2 = e.2)) with
    | some i => some (i, pre.length)
    | none => twO (pre ++ [e]) r
def shO (z : Int) : List En → List En → Option (Nat × Nat)
  | _, [] => none
  | pre, e :: r => match pre.findIdx? (fun x => decide (x.2 / z = e.2 / z)) with
    | some i => if (pre.getD i e).1 = e.1 then shO z (pre ++ [e]) r else some (i, pre.length)
    | none => shO z (pre ++ [e]) r
/-- the last entry of a server -/
def lastI (n : Str) : List En → Nat → Option Nat
  | [], _ => none
  | e :: r, k => match lastI n r (k + 1) with
    | some i => some i
    | none => if e.1 = n then some k else none
def baO : List En → List En → Option (Nat × Nat)
  | _, [] => none
  | pre, e :: r => match lastI e.1 pre 0 with
    | some i => if e.2 < (pre.getD i e).2 then some (i, pre.length) else baO (pre ++ [e]) r
    | none => baO (pre ++ [e]) r
def duoD (w : Str) : Option (Nat × Nat) → PyData
  | none => .none
  | some p => .tuple [.str w, .int (p.1 : Int), .int (p.2 : Int)]
def barD (z : Int) (es : List En) : PyData := match twO [] es with
  | some p => duoD "twice" (some p)
  | none => match shO z [] es with
    | some p => duoD "shared" (some p)
    | none => duoD "back" (baO [] es)
def push (z : Int) (ns : List Str) (es : List En) : List (Int × Int) := pushG 0 ((starts z es).zip (earl z ns es))
def lastS (xs : List (Int × Int)) : Int := (xs.getLast?.map (·.2)).getD 0
def pushedD (z : Int) (ns : List Str) (es : List En) : PyData := if (es.length : Int) < lastS (push z ns es) then .tuple [.str "pushed", .list ((push z ns es).map p2D)] else .none
def obsD (z : Int) (ns : List Str) (es : List En) : PyData := match barD z es with
  | .none => pushedD z ns es
  | d => d
theorem lastI_cons (n : Str) (e : En) (r : List En) (k : Nat) : lastI n (e :: r) k = match lastI n r (k + 1) with
    | some i => some i
    | none => if e.1 = n then some k else none := rfl
theorem lastI_app (n : Str) (e : En) : ∀ (pre : List En) (k : Nat), lastI n (pre ++ [e]) k = if e.1 = n then some (k + pre.length) else lastI n pre k
  | [], k => rfl
  | x :: r, k => by
    have ih := lastI_app n e r (k + 1)
    show lastI n (x :: (r ++ [e])) k = _
    rw [lastI_cons, lastI_cons, ih]
    by_cases h : e.1 = n
    · rw [if_pos h, if_pos h, List.length_cons]
      simp only [Option.some.injEq]
      omega
    · rw [if_neg h, if_neg h]
theorem lastI_lt (n : Str) : ∀ (pre : List En) (k i : Nat), lastI n pre k = some i → k ≤ i ∧ i < k + pre.length
  | [], _, _, h => nomatch h
  | x :: r, k, i, h => by
    rw [lastI_cons] at h
    rw [List.length_cons]
    cases g : lastI n r (k + 1) with
    | some j =>
      rw [g] at h
      simp only [Option.some.injEq] at h
      have := lastI_lt n r (k + 1) j g
      omega
    | none =>
      rw [g] at h
      simp only at h
      split at h
      · cases h
        omega
      · cases h
/-! ### steps, as they lie -/
inductive StepsAt (H : Hp) : List V → List (Int × Int) → Prop where
  | nil : StepsAt H [] []
  | cons {y : V} {p : Int × Int} {ys : List V} {st : List (Int × Int)} : (∃ t, y = .ref t ∧ H t = some (.tup [.int p.1, .int p.2])) → StepsAt H ys st → StepsAt H (y :: ys) (p :: st)
theorem StepsAt.same {H H' : Hp} (e : Same H H') : ∀ {ys : List V} {st : List (Int × Int)}, StepsAt H ys st → StepsAt H' ys st
  | _, _, .nil => .nil
  | _, _, .cons ⟨t, h1, h2⟩ r => .cons ⟨t, h1, e _ _ h2⟩ (StepsAt.same e r)
theorem StepsAt.len {H : Hp} : ∀ {ys : List V} {st : List (Int × Int)}, StepsAt H ys st → ys.length = st.length
  | _, _, .nil => rfl
  | _, _, .cons _ r => by rw [List.length_cons, List.length_cons, StepsAt.len r]
theorem StepsAt.get {H : Hp} : ∀ {ys : List V} {st : List (Int × Int)} {i : Nat} {y : V}, StepsAt H ys st → ys[i]? = some y → ∃ t p, y = .ref t ∧ st[i]? = some p ∧ H t = some (.tup [.int p.1, .int p.2])
  | _, _, i, y, .nil, h => by simp at h
  | _, _, 0, y, .cons ⟨t, h1, h2⟩ r, h => by
    simp at h
    subst h
    exact ⟨t, _, h1, rfl, h2⟩
  | _, _, i + 1, y, .cons _ r, h => by
    obtain ⟨t, p, h1, h2, h3⟩ := StepsAt.get r (by simpa using h)
    exact ⟨t, p, h1, by simpa using h2, h3⟩
theorem StepsAt.dp {K : PySem.W.Frag} {H : Hp} : ∀ {ys : List V} {st : List (Int × Int)}, StepsAt H ys st → DpAll K H ys (st.map p2D)
  | _, _, .nil => .nil
  | _, _, .cons ⟨t, h1, h2⟩ r => by
    subst h1
    exact .cons (.tup (SqT.of h2) (.cons (.int _) (.cons (.int _) .nil))) (StepsAt.dp r)
theorem StepsAt.last {H : Hp} : ∀ {ys : List V} {st : List (Int × Int)} {p : Int × Int}, StepsAt H ys st → st.getLast? = some p → ∃ us t, ys = us ++ [.ref t] ∧ H t = some (.tup [.int p.1, .int p.2])
  | _, _, _, .nil, h => by cases h
  | _, _, p, .cons (p := p1) (st := []) ⟨t, h1, h2⟩ .nil, h => by
    subst h1
    have : p1 = p := by simpa using h
    subst this
    exact ⟨[], t, rfl, h2⟩
  | _, _, p, .cons (y := y) (st := x :: st) _ r, h => by
    rw [List.getLast?_cons_cons] at h
    obtain ⟨us, t, h1, h2⟩ := StepsAt.last r h
    exact ⟨y :: us, t, by rw [h1]; rfl, h2⟩
theorem StepsAt.first {H : Hp} {ys : List V} {st : List (Int × Int)} (h : StepsAt H ys st) (hne : st ≠ []) : ∃ t p, ys[0]? = some (.ref t) ∧ st[0]? = some p ∧ H t = some (.tup [.int p.1, .int p.2]) := by
  cases h with
  | nil => exact absurd rfl hne
  | cons h r =>
    obtain ⟨t, rfl, h2⟩ := h
    exact ⟨t, _, rfl, rfl, h2⟩
theorem StepsAt.snoc {H : Hp} {t : Addr} {p : Int × Int} (h : H t = some (.tup [.int p.1, .int p.2])) : ∀ {ys : List V} {st : List (Int × Int)}, StepsAt H ys st → StepsAt H (ys ++ [.ref t]) (st ++ [p])
  | _, _, .nil => .cons ⟨t, rfl, h⟩ .nil
  | _, _, .cons k r => .cons k (StepsAt.snoc h r)
theorem StepsAt.mut {H : Hp} {L : Addr} {xs : List V} {o : HO} (hL : H L = some (.lst xs)) : ∀ {ys : List V} {st : List (Int × Int)}, StepsAt H ys st → StepsAt (upd H L o) ys st
  | _, _, .nil => .nil
  | _, _, .cons ⟨t, h1, h2⟩ r => .cons ⟨t, h1, upd_keep h2 (ne_of h2 hL (by simp))⟩ (StepsAt.mut hL r)
/-- nothing, or a new tuple that lies as its data tell, its list new -/
def Own (H0 H : Hp) (v : V) (d : PyData) : Prop := (v = .non ∧ d = .none) ∨ ∃ t, v = .ref t ∧ H0 t = none ∧ ((∃ (w : Str) (i j : Int), d = .tuple [.str w, .int i, .int j] ∧ H t = some (.tup [.str w, .int i, .int j])) ∨
  ∃ a ys st, d = .tuple [.str "pushed", .list (st.map p2D)] ∧ H0 a = none ∧ H t = some (.tup [.str "pushed", .ref a]) ∧ H a = some (.lst ys) ∧ StepsAt H ys st)
theorem Own.same {H0 H H' : Hp} {v : V} {d : PyData} (o : Own H0 H v d) (e : Same H H') : Own H0 H' v d := by
  rcases o with h | ⟨t, h1, h2, ⟨w, i, j, h3, h4⟩ | ⟨a, ys, st, h3, h4, h5, h6, h7⟩⟩
  · exact .inl h
  · exact .inr ⟨t, h1, h2, .inl ⟨w, i, j, h3, e _ _ h4⟩⟩
  · exact .inr ⟨t, h1, h2, .inr ⟨a, ys, st, h3, h4, e _ _ h5, e _ _ h6, h7.same e⟩⟩
theorem Own.back {H00 H0 H : Hp} {v : V} {d : PyData} (o : Own H0 H v d) (e : Same H00 H0) : Own H00 H v d := by
  rcases o with h | ⟨t, h1, h2, ⟨w, i, j, h3, h4⟩ | ⟨a, ys, st, h3, h4, h5, h6, h7⟩⟩
  · exact .inl h
  · exact .inr ⟨t, h1, e.free h2, .inl ⟨w, i, j, h3, h4⟩⟩
  · exact .inr ⟨t, h1, e.free h2, .inr ⟨a, ys, st, h3, e.free h4, h5, h6, h7⟩⟩
theorem own_duo {H0 H : Hp} {p : Addr} {w : Str} {i j : Int} (h : H p = none) (e : Same H0 H) : Own H0 (upd H p (.tup [.str w, .int i, .int j])) (.ref p) (.tuple [.str w, .int i, .int j]) :=
  .inr ⟨p, rfl, e.free h, .inl ⟨w, i, j, rfl, upd_same⟩⟩
/-- an answer that is data, at a heap where all stands -/
def DataQ (K : PySem.W.Frag) (H : Hp) (Q : VK) (d : PyData) : Prop := ∀ v H', Same H H' → Dp K H' v d → Own H H' v d → Q v H'
def sp_find_twice (K : PySem.W.Frag) : Sp := fun vs H Q _ => ∃ (s : Addr) (es : List En), vs = [.ref s] ∧ EntsAt H s es ∧ es.length ≤ 1000 ∧ DataQ K H Q (duoD "twice" (twO [] es))
def sp_find_shared (K : PySem.W.Frag) : Sp := fun vs H Q _ => ∃ (z : Int) (s : Addr) (es : List En), vs = [.int z, .ref s] ∧ SizeOk z ∧ EntsAt H s es ∧ es.length ≤ 1000 ∧ DataQ K H Q (duoD "shared" (shO z [] es))
def sp_find_back (K : PySem.W.Frag) : Sp := fun vs H Q _ => ∃ (s : Addr) (es : List En), vs = [.ref s] ∧ EntsAt H s es ∧ es.length ≤ 1000 ∧ DataQ K H Q (duoD "back" (baO [] es))
def sp_find_pair (K : PySem.W.Frag) : Sp := fun vs H Q _ => ∃ (z : Int) (s : Addr) (es : List En), vs = [.int z, .ref s] ∧ SizeOk z ∧ EntsAt H s es ∧ es.length ≤ 1000 ∧ DataQ K H Q (barD z es)
def sp_pushed_steps (K : PySem.W.Frag) : Sp := fun vs H Q _ => ∃ (p : Addr) (z : Int) (ns : List Str) (es : List En), vs = [.ref p] ∧ SightAt K H p z ns es ∧ ∀ a vs' H', H a = none → Same H H' → H' a = some (.lst vs') → DpAll K H' vs' ((push z ns es).map p2D) → StepsAt H' vs' (push z ns es) → Q (.ref a) H'
def sp_find_obstacle (K : PySem.W.Frag) : Sp := fun vs H Q _ => ∃ (z : Int) (c s : Addr) (ns : List Str) (es : List En), vs = [.int z, .ref c, .ref s] ∧ WF z ns es ∧ CrewAt H c ns ∧ EntsAt H s es ∧ DataQ K H Q (obsD z ns es)
def sp_obstacle (K : PySem.W.Frag) : Sp := fun vs H Q _ => ∃ p b z ns es, vs = [.ref p] ∧ LogAt K H p b z ns es ∧ DataQ K H Q (obsD z ns es)
theorem obs_none {z : Int} {ns : List Str} {es : List En} (h : barD z es = .none) : obsD z ns es = pushedD z ns es := by
  unfold obsD
  rw [h]
theorem obs_some {z : Int} {ns : List Str} {es : List En} (h : ¬ barD z es = .none) : obsD z ns es = barD z es := by
  unfold obsD
  split
  · rename_i g
    exact absurd g h
  · rfl
theorem dps_last {K : PySem.W.Frag} {H : Hp} {d : PyData} : ∀ {ds : List PyData} {vs : List V}, DpAll K H vs (ds ++ [d]) → ∃ us v, vs = us ++ [v] ∧ Dp K H v d
  | [], _, h => by
    cases h with
    | cons a b =>
      cases b
      exact ⟨[], _, rfl, a⟩
  | _ :: _, _, h => by
    cases h with
    | cons a b =>
      obtain ⟨us, v, e, k⟩ := dps_last b
      exact ⟨_ :: us, v, by rw [e]; rfl, k⟩
theorem pushG_cons (f : Int) (p : Int × Int) (r : List (Int × Int)) : pushG f (p :: r) = (if f < p.2 then [p] else []) ++ pushG p.2 r := rfl
theorem loop_zip {K : PySem.W.Frag} {a b : Addr} {g : TG} {tb : TS} {D : Ends} {σ : L2.St} {H : Hp} (xs ys : List V) (Pv : Nat → L2.St → Hp → Prop) (h0 : Pv 0 σ H) (hl : ∀ i σ' H', Pv i σ' H' → SqL K H' a xs ∧ SqL K H' b ys)
    (hs : ∀ (i : Nat) x y σ' H' T, xs[i]? = some x → ys[i]? = some y → Pv i σ' H' → H' T = none → g (.ref T) σ' (upd H' T (.tup [x, y])) fun σ2 H2 => tb { D with nx := Pv (i + 1), ct := Pv (i + 1), bk := D.nx } σ2 H2)
    (hd : ∀ σ' H', Pv (min xs.length ys.length) σ' H' → D.nx σ' H') : LoopR (Itz K a b) g tb D σ H := by
  refine ⟨fun i m σ H => m = min xs.length ys.length - i ∧ i ≤ min xs.length ys.length ∧ Pv i σ H, ⟨_, rfl, Nat.zero_le _, h0⟩, ?_⟩
  rintro i m σ H ⟨rfl, hi, p⟩
  obtain ⟨q1, q2⟩ := hl i σ H p
  by_cases hlt : i < min xs.length ys.length
  · have h1 : i < xs.length := by omega
    have h2 : i < ys.length := by omega
    refine .inr ⟨⟨xs, ys, xs[i], ys[i], q1, q2, by simp [h1], by simp [h2]⟩, Pv (i + 1), fun σ' H' p' => ⟨_, by omega, rfl, by omega, p'⟩, fun x H' y => ?_⟩
    obtain ⟨T, x', y', rfl, hT, rfl, z1, z2⟩ := y
    exact hs i x' y' σ H T (z1 xs q1) (z2 ys q2) p hT
  · have e : i = min xs.length ys.length := by omega
    subst e
    exact .inl ⟨⟨xs, ys, q1, q2, by omega⟩, hd σ H p⟩
theorem findIdx_snoc (p : En → Bool) (e : En) : ∀ pre : List En, (pre ++ [e]).findIdx? p = match pre.findIdx? p with
    | some i => some i
    | none => if p e = true then some pre.length else none := by
  intro pre
  rw [List.findIdx?_append]
  cases h : pre.findIdx? p with
  | some i => rfl
  | none =>
    simp only [List.findIdx?_cons, List.findIdx?_nil]
    by_cases g : p e = true
    · simp [g]
    · simp [g]
theorem findIdx_lt {p : En → Bool} {pre : List En} {i : Nat} (h : pre.findIdx? p = some i) : i < pre.length := by
  obtain ⟨a, _⟩ := List.findIdx?_eq_some_iff_getElem.mp h
  exact a
theorem twO_cons (pre : List En) (e : En) (r : List En) : twO pre (e :: r) = match pre.findIdx? (fun x => decide (x.2 = e.2)) with
    | some i => some (i, pre.length)
    | none => twO (pre ++ [e]) r := rfl
theorem shO_cons (z : Int) (pre : List En) (e : En) (r : List En) : shO z pre (e :: r) = match pre.findIdx? (fun x => decide (x.2 / z = e.2 / z)) with
    | some i => if (pre.getD i e).1 = e.1 then shO z (pre ++ [e]) r else some (i, pre.length)
    | none => shO z (pre ++ [e]) r := rfl
theorem baO_cons (pre : List En) (e : En) (r : List En) : baO pre (e :: r) = match lastI e.1 pre 0 with
    | some i => if e.2 < (pre.getD i e).2 then some (i, pre.length) else baO (pre ++ [e]) r
    | none => baO (pre ++ [e]) r := rfl
/-- a tuple of a word and two indices -/
theorem dp_duo {K : PySem.W.Frag} {H : Hp} {p : Addr} {w : Str} {i j : Nat} (h : H p = some (.tup [.str w, .int (i : Int), .int (j : Int)])) : Dp K H (.ref p) (duoD w (some (i, j))) := .tup (SqT.of h) (.cons (.str _) (.cons (.int _) (.cons (.int _) .nil)))
theorem dp_none {K : PySem.W.Frag} {H : Hp} {v : V} {w : Str} {o : Option (Nat × Nat)} (h : Dp K H v (duoD w o)) : v = .non ↔ o = none := by
  cases o with
  | none =>
    cases h
    simp
  | some p =>
    cases h
    simp
end NbM

set_option Elab.async false
set_option linter.all false
set_option maxRecDepth 100000
set_option maxHeartbeats 4000000
/-! A drawn history: its takes and what is shown; no log that shows a part of one has an obstacle. -/
namespace NbQ
open PySem PySem.Spec PyProof.Rows L2 Nb NbE NbS NbF NbP NbK NbL NbX NbW NbZ NbM
structure Take where
  a : Int
  b : Int
  n : Str
  s : Nat
structure Tale (z : Int) (es : List En) (tk : List Take) (fr : Int) : Prop where
  cov : ∀ q : Int, 0 ≤ q → q < fr → ∃ t ∈ tk, t.a ≤ q ∧ q ≤ t.b
  rng : ∀ t ∈ tk, 0 ≤ t.a ∧ t.a ≤ t.b ∧ t.b < fr
  asc : tk.Pairwise (fun t u => t.b < u.a ∧ t.s ≤ u.s)
  slt : ∀ t ∈ tk, t.s ≤ es.length
  own : ∀ (k : Nat) (e : En), es[k]? = some e → ∃ t ∈ tk, t.n = e.1 ∧ t.b = e.2 / z ∧ t.s ≤ k
  low : ∀ t ∈ tk, ∀ (k : Nat) (e : En), es[k]? = some e → e.1 = t.n → k < t.s → e.2 / z < t.a
  hig : ∀ t ∈ tk, ∀ (k : Nat) (e : En), es[k]? = some e → e.1 = t.n → t.s ≤ k → t.b ≤ e.2 / z
  num : ∀ (i j : Nat) (e f : En), i < j → es[i]? = some e → es[j]? = some f → e.1 = f.1 → e.2 < f.2
theorem tale_nil (z : Int) : Tale z [] [] 0 where
  cov := fun q h0 h1 => by omega
  rng := fun t h => by simp at h
  asc := List.Pairwise.nil
  slt := fun t h => by simp at h
  own := fun k e h => by simp at h
  low := fun t h => by simp at h
  hig := fun t h => by simp at h
  num := fun i j e f _ h => by simp at h
theorem Tale.take {z : Int} {es : List En} {tk : List Take} {fr : Int} (T : Tale z es tk fr) (h0 : 0 ≤ fr) {m : Int} (hm : 1 ≤ m) (n : Str) : Tale z es (tk ++ [⟨fr, fr + m - 1, n, es.length⟩]) (fr + m) := by
  have len : ∀ (k : Nat) (e : En), es[k]? = some e → k < es.length := fun k e h => (List.getElem?_eq_some_iff.mp h).1
  refine ⟨fun q h1 h2 => ?_, fun t ht => ?_, ?_, fun t ht => ?_, fun k e h => ?_, fun t ht k e h hn hk => ?_, fun t ht k e h hn hk => ?_, T.num⟩
  · by_cases h : q < fr
    · obtain ⟨t, a, b⟩ := T.cov q h1 h
      exact ⟨t, List.mem_append_left _ a, b⟩
    · exact ⟨_, List.mem_append_right _ List.mem_cons_self, by show fr ≤ q; omega, by show q ≤ fr + m - 1; omega⟩
  · rcases List.mem_append.mp ht with h | h
    · have := T.rng t h
      omega
    · rw [List.mem_singleton.mp h]
      show 0 ≤ fr ∧ fr ≤ fr + m - 1 ∧ fr + m - 1 < fr + m
      omega
  · rw [List.pairwise_append]
    refine ⟨T.asc, by simp, fun t ht u hu => ?_⟩
    rw [List.mem_singleton.mp hu]
    exact ⟨(T.rng t ht).2.2, T.slt t ht⟩
  · rcases List.mem_append.mp ht with h | h
    · exact T.slt t h
    · rw [List.mem_singleton.mp h]
      exact Nat.le_refl _
  · obtain ⟨t, a, b⟩ := T.own k e h
    exact ⟨t, List.mem_append_left _ a, b⟩
  · rcases List.mem_append.mp ht with g | g
    · exact T.low t g k e h hn hk
    · rw [List.mem_singleton.mp g]
      obtain ⟨t', a, b, c, d⟩ := T.own k e h
      have := (T.rng t' a).2.2
      show e.2 / z < fr
      omega
  · rcases List.mem_append.mp ht with g | g
    · exact T.hig t g k e h hn hk
    · rw [List.mem_singleton.mp g] at hk
      have := len k e h
      have hk' : es.length ≤ k := hk
      omega
theorem snoc_get {es : List En} {e f : En} {k : Nat} (h : (es ++ [e])[k]? = some f) : es[k]? = some f ∨ (k = es.length ∧ f = e) := by
  by_cases hk : k < es.length
  · rw [List.getElem?_append_left hk] at h
    exact .inl h
  · rw [List.getElem?_append_right (by omega)] at h
    have : k - es.length = 0 := by
      have := (List.getElem?_eq_some_iff.mp h).1
      simp at this
      omega
    rw [this] at h
    simp at h
    exact .inr ⟨by omega, h.symm⟩
theorem Tale.show {z : Int} {es : List En} {tk : List Take} {fr : Int} (T : Tale z es tk fr) {e : En} {t0 : Take} (h0 : t0 ∈ tk) (hn : t0.n = e.1) (hb : t0.b = e.2 / z) (hl : ∀ t ∈ tk, t.n = e.1 → t.b ≤ e.2 / z) (hlt : ∀ f ∈ es, f.1 = e.1 → f.2 < e.2) : Tale z (es ++ [e]) tk fr := by
  refine ⟨T.cov, T.rng, T.asc, fun t ht => by have := T.slt t ht; rw [List.length_append]; omega, fun k f h => ?_, fun t ht k f h hn' hk => ?_, fun t ht k f h hn' hk => ?_, fun i j f g hij h1 h2 hfg => ?_⟩
  · rcases snoc_get h with h | ⟨rfl, rfl⟩
    · exact T.own k f h
    · exact ⟨t0, h0, hn, hb, T.slt t0 h0⟩
  · rcases snoc_get h with h | ⟨rfl, rfl⟩
    · exact T.low t ht k f h hn' hk
    · have := T.slt t ht
      omega
  · rcases snoc_get h with h | ⟨rfl, rfl⟩
    · exact T.hig t ht k f h hn' hk
    · exact hl t ht hn'.symm
  · rcases snoc_get h2 with k2 | ⟨k2, k3⟩
    · rcases snoc_get h1 with k1 | ⟨k1, k4⟩
      · exact T.num i j f g hij k1 k2 hfg
      · have := (List.getElem?_eq_some_iff.mp k2).1
        omega
    · rcases snoc_get h1 with k1 | ⟨k1, k4⟩
      · subst k3
        exact hlt f (List.mem_of_getElem? k1) hfg
      · omega
/-! ### some of the entries -/
def keep {α : Type} : List Bool → List α → List α
  | b :: fl, e :: es => if b = true then e :: keep fl es else keep fl es
  | _, _ => []
def cnt (fl : List Bool) (s : Nat) : Nat := ((fl.take s).filter id).length
theorem cnt_cons (b : Bool) (fl : List Bool) (s : Nat) : cnt (b :: fl) (s + 1) = (if b = true then 1 else 0) + cnt fl s := by
  unfold cnt
  rw [List.take_succ_cons, List.filter_cons]
  cases b
  · simp
  · simp
    omega
theorem cnt_zero (fl : List Bool) : cnt fl 0 = 0 := rfl
theorem keep_get : ∀ {fl : List Bool} {es : List En} {k' : Nat} {e : En}, (keep fl es)[k']? = some e → ∃ k, es[k]? = some e ∧ fl[k]? = some true ∧ cnt fl k = k'
  | [], _, k', e, h => by simp [keep] at h
  | _ :: _, [], k', e, h => by simp [keep] at h
  | true :: fl, x :: es, 0, e, h => ⟨0, by simpa [keep] using h, rfl, rfl⟩
  | true :: fl, x :: es, k' + 1, e, h => by
    obtain ⟨k, h1, h2, h3⟩ := keep_get (fl := fl) (es := es) (k' := k') (e := e) (by simpa [keep] using h)
    exact ⟨k + 1, by simpa using h1, by simpa using h2, by rw [cnt_cons, if_pos rfl, h3]; omega⟩
  | false :: fl, x :: es, k', e, h => by
    obtain ⟨k, h1, h2, h3⟩ := keep_get (fl := fl) (es := es) (k' := k') (e := e) (by simpa [keep] using h)
    exact ⟨k + 1, by simpa using h1, by simpa using h2, by rw [cnt_cons, if_neg (by decide), h3]; omega⟩
theorem cnt_mono (fl : List Bool) : ∀ {k s : Nat}, k ≤ s → cnt fl k ≤ cnt fl s := by
  induction fl with
  | nil => intro k s _; simp [cnt]
  | cons b fl ih =>
    intro k s h
    cases k with
    | zero => exact Nat.zero_le _
    | succ k =>
      cases s with
      | zero => omega
      | succ s =>
        rw [cnt_cons, cnt_cons]
        have := ih (k := k) (s := s) (by omega)
        omega
theorem cnt_lt {fl : List Bool} : ∀ {k s : Nat}, k < s → fl[k]? = some true → cnt fl k + 1 ≤ cnt fl s := by
  induction fl with
  | nil => intro k s _ h; simp at h
  | cons b fl ih =>
    intro k s h hk
    cases s with
    | zero => omega
    | succ s =>
      cases k with
      | zero =>
        simp at hk
        subst hk
        rw [cnt_cons, if_pos rfl, cnt_zero]
        omega
      | succ k =>
        rw [cnt_cons, cnt_cons]
        have := ih (k := k) (s := s) (by omega) (by simpa using hk)
        omega
theorem keep_len : ∀ {fl : List Bool} {es : List En} {s : Nat}, fl.length = es.length → es.length ≤ s → cnt fl s = (keep fl es).length
  | [], [], s, _, _ => by simp [cnt, keep]
  | b :: fl, x :: es, 0, _, h => by simp at h
  | b :: fl, x :: es, s + 1, h, h2 => by
    have ih := keep_len (fl := fl) (es := es) (s := s) (by simpa using h) (by simpa using h2)
    rw [cnt_cons, ih]
    cases b
    · simp [keep]
    · simp [keep]
      omega
  | [], _ :: _, _, h, _ => by simp at h
  | _ :: _, [], _, h, _ => by simp at h
def Take.at (t : Take) (fl : List Bool) : Take := { t with s := cnt fl t.s }
theorem Tale.keep {z : Int} {es : List En} {tk : List Take} {fr : Int} (T : Tale z es tk fr) {fl : List Bool} (hl : fl.length = es.length) : Tale z (keep fl es) (tk.map fun t => t.at fl) fr := by
  have mem : ∀ t' ∈ tk.map (fun t => t.at fl), ∃ t ∈ tk, t' = t.at fl := fun t' h => by
    obtain ⟨t, a, b⟩ := List.mem_map.mp h
    exact ⟨t, a, b.symm⟩
  refine ⟨fun q h1 h2 => ?_, fun t ht => ?_, ?_, fun t ht => ?_, fun k e h => ?_, fun t ht k e h hn hk => ?_, fun t ht k e h hn hk => ?_, fun i j e f hij h1 h2 hef => ?_⟩
  · obtain ⟨t, a, b⟩ := T.cov q h1 h2
    exact ⟨t.at fl, List.mem_map_of_mem a, b⟩
  · obtain ⟨t, a, rfl⟩ := mem t ht
    exact T.rng t a
  · rw [List.pairwise_map]
    exact T.asc.imp fun h => ⟨h.1, cnt_mono fl h.2⟩
  · obtain ⟨t, a, rfl⟩ := mem t ht
    rw [← keep_len hl (Nat.le_refl _)]
    exact cnt_mono fl (T.slt t a)
  · obtain ⟨k0, g1, g2, g3⟩ := keep_get h
    obtain ⟨t, a, b, c, d⟩ := T.own k0 e g1
    exact ⟨t.at fl, List.mem_map_of_mem a, b, c, by rw [← g3]; exact cnt_mono fl d⟩
  · obtain ⟨t, a, rfl⟩ := mem t ht
    obtain ⟨k0, g1, g2, g3⟩ := keep_get h
    refine T.low t a k0 e g1 hn ?_
    by_cases g : k0 < t.s
    · exact g
    · have := cnt_mono fl (show t.s ≤ k0 by omega)
      have hk' : k < cnt fl t.s := hk
      omega
  · obtain ⟨t, a, rfl⟩ := mem t ht
    obtain ⟨k0, g1, g2, g3⟩ := keep_get h
    refine T.hig t a k0 e g1 hn ?_
    by_cases g : t.s ≤ k0
    · exact g
    · have := cnt_lt (show k0 < t.s by omega) g2
      have hk' : cnt fl t.s ≤ k := hk
      omega
  · obtain ⟨i0, g1, g2, g3⟩ := keep_get h1
    obtain ⟨j0, f1, f2, f3⟩ := keep_get h2
    refine T.num i0 j0 e f ?_ g1 f1 hef
    by_cases g : i0 < j0
    · exact g
    · have := cnt_mono fl (show j0 ≤ i0 by omega)
      omega
/-! ### windows -/
theorem low_le (q z : Int) (n : Str) (s : Int) : ∀ (es : List En) (k : Nat) (l : Int), l ≤ k → (low q (plc z n k es) l ≤ s ↔ l ≤ s ∧ ∀ (i : Nat) (e : En), es[i]? = some e → e.1 = n → e.2 / z < q → ((k + i : Nat) : Int) + 1 ≤ s)
  | [], k, l, hl => ⟨fun h => ⟨h, fun i e hi => by simp at hi⟩, fun h => h.1⟩
  | x :: es, k, l, hl => by
    rw [plc_cons]
    have split0 : (∀ (i : Nat) (e : En), (x :: es)[i]? = some e → e.1 = n → e.2 / z < q → ((k + i : Nat) : Int) + 1 ≤ s) ↔ ((x.1 = n → x.2 / z < q → (k : Int) + 1 ≤ s) ∧ ∀ (i : Nat) (e : En), es[i]? = some e → e.1 = n → e.2 / z < q → ((k + 1 + i : Nat) : Int) + 1 ≤ s) := by
      constructor
      · intro h
        refine ⟨fun h1 h2 => by simpa using h 0 x rfl h1 h2, fun i e hi h1 h2 => ?_⟩
        have := h (i + 1) e (by simpa using hi) h1 h2
        omega
      · rintro ⟨h1, h2⟩ i e hi h3 h4
        cases i with
        | zero =>
          simp at hi
          subst hi
          simpa using h1 h3 h4
        | succ i =>
          have := h2 i e (by simpa using hi) h3 h4
          omega
    rw [split0]
    by_cases h : x.1 = n
    · rw [if_pos h, low_cons]
      by_cases g : x.2 / z < q
      · rw [if_pos g, low_le q z n s es (k + 1) _ (by omega)]
        constructor
        · rintro ⟨h1, h2⟩
          exact ⟨by omega, fun _ _ => h1, h2⟩
        · rintro ⟨h1, h2, h3⟩
          exact ⟨h2 h g, h3⟩
      · rw [if_neg g, low_le q z n s es (k + 1) l (by omega)]
        exact ⟨fun ⟨h1, h2⟩ => ⟨h1, fun _ k => absurd k g, h2⟩, fun ⟨h1, _, h3⟩ => ⟨h1, h3⟩⟩
    · rw [if_neg h, low_le q z n s es (k + 1) l (by omega)]
      exact ⟨fun ⟨h1, h2⟩ => ⟨h1, fun k => absurd k h, h2⟩, fun ⟨h1, _, h3⟩ => ⟨h1, h3⟩⟩
theorem high_ge (q z : Int) (n : Str) (s : Int) : ∀ (es : List En) (k : Nat) (h : Int), (s ≤ high q (plc z n k es) h ↔ s ≤ h ∧ ∀ (i : Nat) (e : En), es[i]? = some e → e.1 = n → ¬ e.2 / z < q → s ≤ ((k + i : Nat) : Int))
  | [], k, h => ⟨fun g => ⟨g, fun i e hi => by simp at hi⟩, fun g => g.1⟩
  | x :: es, k, h => by
    rw [plc_cons]
    have split0 : (∀ (i : Nat) (e : En), (x :: es)[i]? = some e → e.1 = n → ¬ e.2 / z < q → s ≤ ((k + i : Nat) : Int)) ↔ ((x.1 = n → ¬ x.2 / z < q → s ≤ (k : Int)) ∧ ∀ (i : Nat) (e : En), es[i]? = some e → e.1 = n → ¬ e.2 / z < q → s ≤ ((k + 1 + i : Nat) : Int)) := by
      constructor
      · intro g
        refine ⟨fun h1 h2 => by simpa using g 0 x rfl h1 h2, fun i e hi h1 h2 => ?_⟩
        have := g (i + 1) e (by simpa using hi) h1 h2
        omega
      · rintro ⟨h1, h2⟩ i e hi h3 h4
        cases i with
        | zero =>
          simp at hi
          subst hi
          simpa using h1 h3 h4
        | succ i =>
          have := h2 i e (by simpa using hi) h3 h4
          omega
    rw [split0]
    by_cases g : x.1 = n
    · rw [if_pos g, high_cons, high_ge q z n s es (k + 1)]
      by_cases g2 : x.2 / z < q
      · rw [if_pos g2]
        exact ⟨fun ⟨h1, h2⟩ => ⟨h1, fun _ k => absurd g2 k, h2⟩, fun ⟨h1, _, h3⟩ => ⟨h1, h3⟩⟩
      · rw [if_neg g2]
        constructor
        · rintro ⟨h1, h2⟩
          exact ⟨by omega, fun _ _ => by omega, h2⟩
        · rintro ⟨h1, h2, h3⟩
          have := h2 g g2
          exact ⟨by omega, h3⟩
    · rw [if_neg g, high_ge q z n s es (k + 1)]
      exact ⟨fun ⟨h1, h2⟩ => ⟨h1, fun k => absurd k g, h2⟩, fun ⟨h1, _, h3⟩ => ⟨h1, h3⟩⟩
theorem win_some {z q : Int} {es : List En} {n : Str} (h : ∀ (k : Nat) (e : En), es[k]? = some e → e.2 / z = q → e.1 = n) : winO z es n q = some (NbW.low q (plc z n 0 es) 0, high q (plc z n 0 es) (es.length : Int)) := by
  unfold winO
  rw [if_neg]
  rw [Bool.not_eq_true, List.any_eq_false]
  intro x hx
  unfold hold at hx
  obtain ⟨e, he, rfl⟩ := List.mem_map.mp hx
  obtain ⟨h1, h2⟩ := List.mem_filter.mp he
  obtain ⟨k, hk⟩ := List.mem_iff_getElem?.mp h1
  simpa using h k e hk (of_decide_eq_true h2)
/-- takes are one after another -/
theorem Tale.same {z : Int} {es : List En} {tk : List Take} {fr : Int} (T : Tale z es tk fr) {t u : Take} (ht : t ∈ tk) (hu : u ∈ tk) : t = u ∨ (t.b < u.a ∧ t.s ≤ u.s) ∨ (u.b < t.a ∧ u.s ≤ t.s) := by
  obtain ⟨i, hi⟩ := List.mem_iff_getElem?.mp ht
  obtain ⟨j, hj⟩ := List.mem_iff_getElem?.mp hu
  obtain ⟨hi1, hi2⟩ := List.getElem?_eq_some_iff.mp hi
  obtain ⟨hj1, hj2⟩ := List.getElem?_eq_some_iff.mp hj
  have p := List.pairwise_iff_getElem.mp T.asc
  rcases Nat.lt_trichotomy i j with h | h | h
  · have := p i j hi1 hj1 h
    rw [hi2, hj2] at this
    exact .inr (.inl this)
  · subst h
    exact .inl (hi2.symm.trans hj2)
  · have := p j i hj1 hi1 h
    rw [hi2, hj2] at this
    exact .inr (.inr this)
theorem Tale.one {z : Int} {es : List En} {tk : List Take} {fr : Int} (T : Tale z es tk fr) {t u : Take} (ht : t ∈ tk) (hu : u ∈ tk) {q : Int} (h1 : t.a ≤ q) (h2 : q ≤ t.b) (h3 : u.a ≤ q) (h4 : q ≤ u.b) : t = u := by
  rcases T.same ht hu with h | h | h
  · exact h
  · omega
  · omega
theorem Tale.win {z : Int} {es : List En} {tk : List Take} {fr : Int} (T : Tale z es tk fr) {t : Take} (ht : t ∈ tk) {q : Int} (h1 : t.a ≤ q) (h2 : q ≤ t.b) : ∃ lo hi, winO z es t.n q = some (lo, hi) ∧ lo ≤ (t.s : Int) ∧ (t.s : Int) ≤ hi := by
  refine ⟨_, _, win_some fun k e he hq => ?_, ?_, ?_⟩
  · obtain ⟨u, a, b, c, d⟩ := T.own k e he
    have := T.rng u a
    rw [T.one ht a h1 h2 (by omega) (by omega)]
    exact b.symm
  · rw [low_le q z t.n t.s es 0 0 (Int.le_refl _)]
    refine ⟨by omega, fun i e hi hn hb => ?_⟩
    by_cases g : i < t.s
    · omega
    · have := T.hig t ht i e hi hn (by omega)
      omega
  · rw [high_ge q z t.n t.s es 0]
    have := T.slt t ht
    refine ⟨by omega, fun i e hi hn hb => ?_⟩
    by_cases g : t.s ≤ i
    · omega
    · have := T.low t ht i e hi hn (by omega)
      omega
/-! ### no obstacle -/
theorem twO_none : ∀ (rest pre : List En), (∀ (i j : Nat) (e f : En), i < j → (pre ++ rest)[i]? = some e → (pre ++ rest)[j]? = some f → e.2 ≠ f.2) → twO pre rest = none
  | [], _, _ => rfl
  | e :: r, pre, h => by
    rw [twO_cons]
    cases hf : pre.findIdx? (fun x => decide (x.2 = e.2)) with
    | some i =>
      obtain ⟨hi, hd, _⟩ := List.findIdx?_eq_some_iff_getElem.mp hf
      refine absurd (of_decide_eq_true hd) (h i pre.length pre[i] e hi ?_ ?_)
      · rw [List.getElem?_append_left hi, List.getElem?_eq_getElem hi]
      · rw [List.getElem?_append_right (Nat.le_refl _), Nat.sub_self]
        rfl
    | none =>
      exact twO_none r (pre ++ [e]) (by rw [List.append_assoc]; exact h)
theorem shO_none (z : Int) : ∀ (rest pre : List En), (∀ (i j : Nat) (e f : En), i < j → (pre ++ rest)[i]? = some e → (pre ++ rest)[j]? = some f → e.2 / z = f.2 / z → e.1 = f.1) → shO z pre rest = none
  | [], _, _ => rfl
  | e :: r, pre, h => by
    rw [shO_cons]
    have ih := shO_none z r (pre ++ [e]) (by rw [List.append_assoc]; exact h)
    cases hf : pre.findIdx? (fun x => decide (x.2 / z = e.2 / z)) with
    | some i =>
      obtain ⟨hi, hd, _⟩ := List.findIdx?_eq_some_iff_getElem.mp hf
      have hg : pre.getD i e = pre[i] := by
        rw [List.getD_eq_getElem?_getD, List.getElem?_eq_getElem hi]
        rfl
      have := h i pre.length pre[i] e hi (by rw [List.getElem?_append_left hi, List.getElem?_eq_getElem hi]) (by rw [List.getElem?_append_right (Nat.le_refl _), Nat.sub_self]; rfl) (of_decide_eq_true hd)
      simp only [hg]
      rw [if_pos this]
      exact ih
    | none => exact ih
theorem lastI_name (n : Str) : ∀ (pre : List En) (k i : Nat), lastI n pre k = some i → ∃ x, pre[i - k]? = some x ∧ x.1 = n ∧ k ≤ i
  | [], _, _, h => nomatch h
  | x :: r, k, i, h => by
    rw [lastI_cons] at h
    cases g : lastI n r (k + 1) with
    | some j =>
      rw [g] at h
      simp only [Option.some.injEq] at h
      subst h
      obtain ⟨y, h1, h2, h3⟩ := lastI_name n r (k + 1) j g
      refine ⟨y, ?_, h2, by omega⟩
      have e : j - k = (j - (k + 1)) + 1 := by omega
      rw [e]
      simpa using h1
    | none =>
      rw [g] at h
      simp only at h
      split at h
      · rename_i hx
        cases h
        exact ⟨x, by rw [Nat.sub_self]; rfl, hx, Nat.le_refl _⟩
      · cases h
theorem baO_none : ∀ (rest pre : List En), (∀ (i j : Nat) (e f : En), i < j → (pre ++ rest)[i]? = some e → (pre ++ rest)[j]? = some f → e.1 = f.1 → e.2 ≤ f.2) → baO pre rest = none
  | [], _, _ => rfl
  | e :: r, pre, h => by
    rw [baO_cons]
    have ih := baO_none r (pre ++ [e]) (by rw [List.append_assoc]; exact h)
    cases hf : lastI e.1 pre 0 with
    | some i =>
      obtain ⟨x, h1, h2, _⟩ := lastI_name e.1 pre 0 i hf
      rw [Nat.sub_zero] at h1
      have hi := (List.getElem?_eq_some_iff.mp h1).1
      have hg : pre.getD i e = x := by
        rw [List.getD_eq_getElem?_getD, h1]
        rfl
      have := h i pre.length x e hi (by rw [List.getElem?_append_left hi, h1]) (by rw [List.getElem?_append_right (Nat.le_refl _), Nat.sub_self]; rfl) h2
      simp only [hg]
      rw [if_neg (by omega)]
      exact ih
    | none => exact ih
theorem slotF_le {s k : Int} (hs : s ≤ k) : ∀ (ws : List (Int × Int)) (f : Int), slotF s ws f ≤ f ∧ ((∃ p ∈ ws, p.1 ≤ k ∧ k ≤ p.2) → slotF s ws f ≤ k)
  | [], f => ⟨Int.le_refl _, fun ⟨p, hp, _⟩ => nomatch hp⟩
  | p :: r, f => by
    rw [slotF_cons]
    obtain ⟨h1, h2⟩ := slotF_le hs r (if max p.1 s ≤ p.2 then min f (max p.1 s) else f)
    have hle : (if max p.1 s ≤ p.2 then min f (max p.1 s) else f) ≤ f := by split <;> omega
    refine ⟨Int.le_trans h1 hle, ?_⟩
    rintro ⟨p', hp, a, b⟩
    rcases List.mem_cons.mp hp with rfl | hp
    · have : max p'.1 s ≤ p'.2 := by omega
      rw [if_pos this] at h1 ⊢
      omega
    · exact h2 ⟨p', hp, a, b⟩
theorem startsG_ok : ∀ (xs : List Int) (f : Int), xs.Pairwise (· < ·) → (∀ b ∈ xs, f ≤ b) → (startsG f xs).Pairwise (· < ·) ∧ ∀ q ∈ startsG f xs, f ≤ q ∧ ∃ b ∈ xs, q ≤ b
  | [], _, _, _ => ⟨List.Pairwise.nil, fun q h => nomatch h⟩
  | b :: r, f, hp, hb => by
    obtain ⟨p1, p2⟩ := List.pairwise_cons.mp hp
    obtain ⟨i1, i2⟩ := startsG_ok r (b + 1) p2 fun x hx => p1 x hx
    have hfb := hb b List.mem_cons_self
    rw [startsG_cons]
    have up : ∀ q ∈ startsG (b + 1) r, b + 1 ≤ q ∧ ∃ b' ∈ b :: r, q ≤ b' := fun q hq => by
      obtain ⟨a, b', c, d⟩ := i2 q hq
      exact ⟨a, b', List.mem_cons_of_mem _ c, d⟩
    split
    · rename_i h
      refine ⟨?_, fun q hq => ?_⟩
      · rw [List.pairwise_append]
        refine ⟨List.pairwise_cons.mpr ⟨fun x hx => ?_, by simp⟩, i1, fun x hx y hy => ?_⟩
        · rw [List.mem_singleton.mp hx]
          exact h
        · have := (up y hy).1
          simp only [List.mem_cons, List.not_mem_nil, or_false] at hx
          rcases hx with rfl | rfl <;> omega
      · rcases List.mem_append.mp hq with hq | hq
        · simp only [List.mem_cons, List.not_mem_nil, or_false] at hq
          rcases hq with rfl | rfl
          · exact ⟨Int.le_refl _, b, List.mem_cons_self, by omega⟩
          · exact ⟨hfb, q, List.mem_cons_self, Int.le_refl _⟩
        · obtain ⟨a, c⟩ := up q hq
          exact ⟨by omega, c⟩
    · refine ⟨?_, fun q hq => ?_⟩
      · rw [List.pairwise_append]
        refine ⟨by simp, i1, fun x hx y hy => ?_⟩
        have := (up y hy).1
        rw [List.mem_singleton.mp hx]
        omega
      · rcases List.mem_append.mp hq with hq | hq
        · rw [List.mem_singleton.mp hq]
          exact ⟨hfb, b, List.mem_cons_self, Int.le_refl _⟩
        · obtain ⟨a, c⟩ := up q hq
          exact ⟨by omega, c⟩
/-- in which slot a block is taken -/
def At (tk : List Take) (q k : Int) : Prop := ∃ t ∈ tk, t.a ≤ q ∧ q ≤ t.b ∧ k = (t.s : Int)
theorem Tale.walk {z : Int} {es : List En} {tk : List Take} {fr : Int} {ns : List Str} (T : Tale z es tk fr) (hn : ∀ t ∈ tk, t.n ∈ ns) : ∀ (ys : List Int) (s : Int), ys.Pairwise (· < ·) → (∀ q ∈ ys, 0 ≤ q ∧ q < fr) → (∀ q ∈ ys, ∀ k, At tk q k → s ≤ k) → ∀ x ∈ walkE (sFrom z ns es) (es.length : Int) s ys, x ≤ (es.length : Int)
  | [], _, _, _, _ => fun x h => nomatch h
  | q :: r, s, hp, hr, hs => by
    obtain ⟨p1, p2⟩ := List.pairwise_cons.mp hp
    obtain ⟨t, ht, h1, h2⟩ := T.cov q (hr q List.mem_cons_self).1 (hr q List.mem_cons_self).2
    have hsk := hs q List.mem_cons_self (t.s : Int) ⟨t, ht, h1, h2, rfl⟩
    obtain ⟨lo, hi, w1, w2, w3⟩ := T.win ht h1 h2
    have hle : sFrom z ns es q s ≤ (t.s : Int) := (slotF_le hsk _ _).2 ⟨(lo, hi), by
      unfold wins
      rw [List.mem_filterMap]
      exact ⟨t.n, hn t ht, w1⟩, w2, w3⟩
    have hlt := T.slt t ht
    rw [walkE_cons, if_neg (by omega)]
    intro x hx
    rcases List.mem_cons.mp hx with rfl | hx
    · omega
    · refine T.walk hn r _ p2 (fun q' hq' => hr q' (List.mem_cons_of_mem _ hq')) (fun q' hq' k hk => ?_) x hx
      obtain ⟨u, hu, k1, k2, rfl⟩ := hk
      have hlt2 := p1 q' hq'
      rcases T.same ht hu with h | h | h
      · subst h
        exact hle
      · omega
      · have := T.rng u hu
        have := T.rng t ht
        omega
theorem mem_pushG : ∀ (zs : List (Int × Int)) (f : Int) (p : Int × Int), p ∈ pushG f zs → p ∈ zs
  | [], _, _, h => nomatch h
  | x :: r, f, p, h => by
    rw [pushG_cons] at h
    rcases List.mem_append.mp h with h | h
    · split at h
      · rw [List.mem_singleton.mp h]
        exact List.mem_cons_self
      · cases h
    · exact List.mem_cons_of_mem _ (mem_pushG r _ p h)
theorem pushed_none {z : Int} {ns : List Str} {es : List En} (h : ∀ x ∈ earl z ns es, x ≤ (es.length : Int)) : pushedD z ns es = .none := by
  unfold pushedD
  rw [if_neg]
  unfold lastS
  cases hl : (push z ns es).getLast? with
  | none =>
    show ¬ (es.length : Int) < 0
    omega
  | some p =>
    have hm := mem_pushG _ _ _ (List.mem_of_getLast? hl)
    have := h p.2 (List.of_mem_zip hm).2
    show ¬ (es.length : Int) < p.2
    omega
theorem Tale.obs {z : Int} {es : List En} {tk : List Take} {fr : Int} {ns : List Str} (T : Tale z es tk fr) (hn : ∀ t ∈ tk, t.n ∈ ns) : obsD z ns es = .none := by
  have own2 : ∀ (i j : Nat) (e f : En), es[i]? = some e → es[j]? = some f → e.2 / z = f.2 / z → e.1 = f.1 := fun i j e f hi hj h => by
    obtain ⟨t, a, b, c, _⟩ := T.own i e hi
    obtain ⟨u, a', b', c', _⟩ := T.own j f hj
    have r1 := T.rng t a
    have r2 := T.rng u a'
    have := T.one a a' (q := e.2 / z) (by omega) (by omega) (by omega) (by omega)
    subst this
    exact b.symm.trans b'
  have hb : barD z es = .none := by
    unfold barD
    rw [twO_none es [] fun i j e f hij hi hj h => ?_]
    · simp only
      rw [shO_none z es [] fun i j e f _ hi hj h => own2 i j e f hi hj h]
      simp only
      rw [baO_none es [] fun i j e f hij hi hj h => Int.le_of_lt (T.num i j e f hij hi hj h)]
      rfl
    · have h1 := own2 i j e f hi hj (by rw [h])
      have h2 := T.num i j e f hij hi hj h1
      omega
  rw [obs_none hb]
  refine pushed_none ?_
  obtain ⟨s1, s2⟩ := startsG_ok (seen z es) 0 (lt_seen z es) fun b hb => by
    obtain ⟨e, he, rfl⟩ := (mem_seen z b es).mp hb
    obtain ⟨k, hk⟩ := List.mem_iff_getElem?.mp he
    obtain ⟨t, a, _, c, _⟩ := T.own k e hk
    have := T.rng t a
    omega
  refine T.walk hn (starts z es) 0 s1 (fun q hq => ?_) (fun q hq k hk => ?_)
  · obtain ⟨a, b, hb, c⟩ := s2 q hq
    obtain ⟨e, he, rfl⟩ := (mem_seen z b es).mp hb
    obtain ⟨k, hk⟩ := List.mem_iff_getElem?.mp he
    obtain ⟨t, a', _, c', _⟩ := T.own k e hk
    have := T.rng t a'
    omega
  · obtain ⟨t, _, _, _, rfl⟩ := hk
    omega
/-- windows of fewer entries are as wide, counted in what is left -/
theorem Tale.wide {z : Int} {es : List En} {fl : List Bool} (hl : fl.length = es.length) {n : Str} {q lo hi lo' hi' : Int} (h : winO z es n q = some (lo, hi)) (h' : winO z (NbQ.keep fl es) n q = some (lo', hi')) (h0 : 0 ≤ lo) (h1 : lo ≤ hi) :
    lo' ≤ (cnt fl lo.toNat : Int) ∧ (cnt fl lo.toNat : Int) ≤ (cnt fl hi.toNat : Int) ∧ (cnt fl hi.toNat : Int) ≤ hi' := by
  unfold winO at h h'
  split at h
  · cases h
  split at h'
  · cases h'
  simp only [Option.some.injEq, Prod.mk.injEq] at h h'
  obtain ⟨rfl, rfl⟩ := h
  obtain ⟨rfl, rfl⟩ := h'
  have a1 := (low_le q z n _ es 0 0 (Int.le_refl _)).mp (Int.le_refl _)
  have a2 := (high_ge q z n _ es 0 (es.length : Int)).mp (Int.le_refl _)
  refine ⟨?_, by have := cnt_mono fl (show (NbW.low q (plc z n 0 es) 0).toNat ≤ (high q (plc z n 0 es) (es.length : Int)).toNat by omega); omega, ?_⟩
  · rw [low_le q z n _ _ 0 0 (Int.le_refl _)]
    refine ⟨by omega, fun i e hi hn hb => ?_⟩
    obtain ⟨k, g1, g2, g3⟩ := keep_get hi
    have := a1.2 k e g1 hn hb
    have := cnt_lt (fl := fl) (show k < (NbW.low q (plc z n 0 es) 0).toNat by omega) g2
    omega
  · rw [high_ge q z n _ _ 0]
    refine ⟨?_, fun i e hi hn hb => ?_⟩
    · have := cnt_mono fl (show (high q (plc z n 0 es) (es.length : Int)).toNat ≤ es.length by omega)
      rw [keep_len hl (Nat.le_refl _)] at this
      omega
    · obtain ⟨k, g1, g2, g3⟩ := keep_get hi
      have := a2.2 k e g1 hn hb
      have := cnt_mono fl (show (high q (plc z n 0 es) (es.length : Int)).toNat ≤ k by omega)
      omega
/-! ### how the law draws one -/
def Takes (H : Hp) : List Addr → List Take → Prop
  | [], [] => True
  | u :: us, t :: ts => H u = some (.tup [.int t.a, .int t.b, .str t.n, .int (t.s : Int)]) ∧ Takes H us ts
  | _, _ => False
theorem Takes.imp {H H' : Hp} (k : ∀ t xs, H t = some (.tup xs) → H' t = some (.tup xs)) : ∀ {us : List Addr} {ts : List Take}, Takes H us ts → Takes H' us ts
  | [], [], _ => trivial
  | _ :: _, _ :: _, h => ⟨k _ _ h.1, Takes.imp k h.2⟩
  | [], _ :: _, h => h.elim
  | _ :: _, [], h => h.elim
theorem Takes.app {H : Hp} {u : Addr} {t : Take} (hu : H u = some (.tup [.int t.a, .int t.b, .str t.n, .int (t.s : Int)])) : ∀ {us : List Addr} {ts : List Take}, Takes H us ts → Takes H (us ++ [u]) (ts ++ [t])
  | [], [], _ => ⟨hu, trivial⟩
  | _ :: _, _ :: _, h => ⟨h.1, Takes.app hu h.2⟩
  | [], _ :: _, h => h.elim
  | _ :: _, [], h => h.elim
theorem Takes.len {H : Hp} : ∀ {us : List Addr} {ts : List Take}, Takes H us ts → us.length = ts.length
  | [], [], _ => rfl
  | _ :: _, _ :: _, h => by rw [List.length_cons, List.length_cons, Takes.len h.2]
  | [], _ :: _, h => h.elim
  | _ :: _, [], h => h.elim
theorem Takes.mem {H : Hp} : ∀ {us : List Addr} {ts : List Take} {u : Addr}, Takes H us ts → u ∈ us → ∃ t ∈ ts, H u = some (.tup [.int t.a, .int t.b, .str t.n, .int (t.s : Int)])
  | u :: us, t :: ts, v, h, g => by
    rcases List.mem_cons.mp g with rfl | g
    · exact ⟨t, List.mem_cons_self, h.1⟩
    · obtain ⟨t', a, b⟩ := Takes.mem h.2 g
      exact ⟨t', List.mem_cons_of_mem _ a, b⟩
  | [], [], _, _, g => nomatch g
  | [], _ :: _, _, h, _ => h.elim
  | _ :: _, [], _, h, _ => h.elim
def HeldX (H : Hp) (dh : Addr) (held : Str → Option (Int × Int)) (j : Nat) : Prop := ∃ kvs : List (Key × V), H dh = some (.dK kvs) ∧ kvs.length ≤ j ∧ ∀ n, (held n = none ∧ valV kvs (.inr n) = none) ∨ ∃ t o d, held n = some (o, d) ∧ valV kvs (.inr n) = some (.ref t) ∧ H t = some (.tup [.int o, .int d])
def putH (held : Str → Option (Int × Int)) (n : Str) (p : Int × Int) : Str → Option (Int × Int) := fun m => if m = n then some p else held m
structure StoryH (H0 H : Hp) (fa s tk dh : Addr) (es : List En) (tks : List Take) (held : Str → Option (Int × Int)) (i : Nat) : Prop where
  st : Stp fa H0 H
  fs : H0 s = none
  ft : H0 tk = none
  fd : H0 dh = none
  nf : s ≠ fa ∧ tk ≠ fa ∧ dh ≠ fa
  nt : s ≠ tk
  en : EntsAt H s es
  tk : ∃ us, H tk = some (.lst (us.map V.ref)) ∧ Takes H us tks ∧ us.length ≤ i
  hd : HeldX H dh held i
section
variable {H0 H H' : Hp} {fa s tk dh : Addr} {es : List En} {tks : List Take} {held : Str → Option (Int × Int)} {i : Nat}
theorem HeldX.imp {j : Nat} (h : HeldX H dh held j) (k1 : ∀ kvs : List (Key × V), H dh = some (.dK kvs) → H' dh = some (.dK kvs)) (k : ∀ t xs, H t = some (.tup xs) → H' t = some (.tup xs)) {j' : Nat} (hj : j ≤ j') : HeldX H' dh held j' := by
  obtain ⟨kvs, a, b, c⟩ := h
  exact ⟨kvs, k1 _ a, Nat.le_trans b hj, fun n => (c n).imp id fun ⟨t, o, d, x, y, w⟩ => ⟨t, o, d, x, y, k _ _ w⟩⟩
theorem StoryH.stp (S : StoryH H0 H fa s tk dh es tks held i) (e : Stp fa H H') : StoryH H0 H' fa s tk dh es tks held i := by
  obtain ⟨us, b1, b2, b3⟩ := S.tk
  have kt : ∀ t xs, H t = some (.tup xs) → H' t = some (.tup xs) := fun t xs h => e.kp _ _ (ne_tup S.st.fd h) h
  exact ⟨S.st.trans e, S.fs, S.ft, S.fd, S.nf, S.nt, S.en.stp S.st.fd e, ⟨us, e.kp _ _ S.nf.2.1 b1, b2.imp kt, b3⟩, S.hd.imp (fun _ h => e.kp _ _ S.nf.2.2 h) kt (Nat.le_refl _)⟩
theorem StoryH.same (S : StoryH H0 H fa s tk dh es tks held i) (e : Same H H') : StoryH H0 H' fa s tk dh es tks held i := S.stp (Stp.of e S.st.fd)
theorem StoryH.up (S : StoryH H0 H fa s tk dh es tks held i) {j : Nat} (hj : i ≤ j) : StoryH H0 H fa s tk dh es tks held j := by
  obtain ⟨us, b1, b2, b3⟩ := S.tk
  exact ⟨S.st, S.fs, S.ft, S.fd, S.nf, S.nt, S.en, ⟨us, b1, b2, Nat.le_trans b3 hj⟩, S.hd.imp (fun _ h => h) (fun _ _ h => h) hj⟩
/-- a take more -/
theorem StoryH.take (S : StoryH H0 H fa s tk dh es tks held i) {us : List Addr} (h : H tk = some (.lst (us.map V.ref))) (ht : Takes H us tks) (hl : us.length ≤ i) {u : Addr} {t : Take} (hu : H u = some (.tup [.int t.a, .int t.b, .str t.n, .int (t.s : Int)])) :
    StoryH H0 (upd H tk (.lst (us.map V.ref ++ [.ref u]))) fa s tk dh es (tks ++ [t]) held (i + 1) := by
  have kt : ∀ t' ys, H t' = some (.tup ys) → upd H tk (.lst (us.map V.ref ++ [.ref u])) t' = some (.tup ys) := fun t ys g => upd_keep g (ne_of g h (by simp))
  obtain ⟨ts, a1, a2⟩ := S.en
  exact ⟨S.st.mut S.ft S.nf.2.1, S.fs, S.ft, S.fd, S.nf, S.nt, ⟨ts, upd_keep a1 S.nt, a2.imp kt⟩, ⟨us ++ [u], by rw [upd_same, List.map_append]; rfl, Takes.app (kt _ _ hu) (ht.imp kt), by rw [List.length_append, List.length_singleton]; omega⟩, S.hd.imp (fun kvs g => upd_keep g (ne_of g h (by simp))) kt (by omega)⟩
theorem StoryH.put (S : StoryH H0 H fa s tk dh es tks held i) {kvs : List (Key × V)} (h : H dh = some (.dK kvs)) (n : Str) {t : Addr} {o d : Int} (ht : H t = some (.tup [.int o, .int d])) :
    StoryH H0 (upd H dh (.dK (putK kvs (.inr n) (.ref t)))) fa s tk dh es tks (putH held n (o, d)) (i + 1) := by
  have kt : ∀ t' ys, H t' = some (.tup ys) → upd H dh (.dK (putK kvs (.inr n) (.ref t))) t' = some (.tup ys) := fun t ys g => upd_keep g (ne_of g h (by simp))
  obtain ⟨ts, a1, a2⟩ := S.en
  obtain ⟨us, b1, b2, b3⟩ := S.tk
  obtain ⟨kv2, c1, c2, c3⟩ := S.hd
  rw [h] at c1
  cases c1
  refine ⟨S.st.mut S.fd S.nf.2.2, S.fs, S.ft, S.fd, S.nf, S.nt, ⟨ts, upd_keep a1 (ne_of a1 h (by simp)), a2.imp kt⟩, ⟨us, upd_keep b1 (ne_of b1 h (by simp)), b2.imp kt, by omega⟩, ⟨_, upd_same, Nat.le_trans (putK_le _ _ _) (by omega), fun m => ?_⟩⟩
  rw [valV_put]
  unfold putH
  by_cases g : m = n
  · subst g
    rw [if_pos rfl, if_pos rfl]
    exact .inr ⟨t, o, d, rfl, rfl, kt _ _ ht⟩
  · rw [if_neg g, if_neg (fun e => g (by injection e))]
    exact (c3 m).imp id fun ⟨t, o, d, x, y, w⟩ => ⟨t, o, d, x, y, kt _ _ w⟩
theorem StoryH.show (S : StoryH H0 H fa s tk dh es tks held i) {xs : List V} (h : H s = some (.lst xs)) {t : Addr} {e : En} (ht : H t = some (.tup [.str e.1, .int e.2])) : StoryH H0 (upd H s (.lst (xs ++ [.ref t]))) fa s tk dh (es ++ [e]) tks held i := by
  obtain ⟨ts, a1, a2⟩ := S.en
  obtain ⟨us, b1, b2, b3⟩ := S.tk
  rw [h] at a1
  cases a1
  have kt : ∀ t' ys, H t' = some (.tup ys) → upd H s (.lst (ts.map V.ref ++ [.ref t])) t' = some (.tup ys) := fun t' ys g => upd_keep g (ne_of g h (by simp))
  exact ⟨S.st.mut S.fs S.nf.1, S.fs, S.ft, S.fd, S.nf, S.nt, ⟨ts ++ [t], by rw [upd_same, List.map_append]; rfl, Ents.app (kt _ _ ht) (a2.imp kt)⟩, ⟨us, upd_keep b1 S.nt.symm, b2.imp kt, b3⟩, S.hd.imp (fun kvs g => upd_keep g (ne_of g h (by simp))) kt (Nat.le_refl _)⟩
end
/-- what is true of it -/
structure Logic (z m : Int) (ns : List Str) (es : List En) (tks : List Take) (held : Str → Option (Int × Int)) (fr : Int) : Prop where
  zp : 1 ≤ z
  len : (es.length : Int) ≤ m
  nm : ∀ e ∈ es, e.1 ∈ ns ∧ 0 ≤ e.2
  tn : ∀ t ∈ tks, t.n ∈ ns
  T : Tale z es tks fr
  f0 : 0 ≤ fr
  hd : ∀ n o d, held n = some (o, d) → 0 ≤ d ∧ d ≤ z ∧ (∃ t ∈ tks, t.n = n ∧ t.b = o) ∧ (∀ t ∈ tks, t.n = n → t.b ≤ o) ∧ ∀ e ∈ es, e.1 = n → e.2 < o * z + d
theorem logic_nil {z m : Int} {ns : List Str} (hz : 1 ≤ z) (hm : 0 ≤ m) : Logic z m ns [] [] (fun _ => none) 0 := ⟨hz, hm, fun _ h => by simp at h, fun _ h => by simp at h, tale_nil z, Int.le_refl _, fun _ _ _ h => nomatch h⟩
section
variable {z m : Int} {ns : List Str} {es : List En} {tks : List Take} {held : Str → Option (Int × Int)} {fr : Int}
theorem Logic.below (L : Logic z m ns es tks held fr) {e : En} (he : e ∈ es) : e.2 < fr * z := by
  obtain ⟨k, hk⟩ := List.mem_iff_getElem?.mp he
  obtain ⟨t, a, _, c, _⟩ := L.T.own k e hk
  have h1 := (L.T.rng t a).2.2
  have h2 := Int.lt_ediv_add_one_mul_self e.2 (show 0 < z by have := L.zp; omega)
  have h3 : (e.2 / z + 1) * z ≤ fr * z := Int.mul_le_mul_of_nonneg_right (by omega) (by have := L.zp; omega)
  omega
theorem Logic.take (L : Logic z m ns es tks held fr) {x : Int} (hx : 0 ≤ x) {n : Str} (hn : n ∈ ns) : Logic z m ns es (tks ++ [⟨fr, fr + (1 + x) - 1, n, es.length⟩]) (putH held n (fr + (1 + x) - 1, 0)) (fr + (1 + x)) := by
  have hzp := L.zp
  refine ⟨L.zp, L.len, L.nm, fun t ht => ?_, L.T.take L.f0 (by omega) n, by have := L.f0; omega, fun n' o d h => ?_⟩
  · rcases List.mem_append.mp ht with h | h
    · exact L.tn t h
    · rw [List.mem_singleton.mp h]
      exact hn
  · unfold putH at h
    by_cases g : n' = n
    · rw [if_pos g] at h
      cases h
      refine ⟨Int.le_refl _, by omega, ⟨_, List.mem_append_right _ List.mem_cons_self, g.symm, rfl⟩, fun t ht _ => ?_, fun e he _ => ?_⟩
      · rcases List.mem_append.mp ht with h | h
        · have := (L.T.rng t h).2.2
          omega
        · rw [List.mem_singleton.mp h]
          exact Int.le_refl _
      · have h1 := L.below he
        have h2 : fr * z ≤ (fr + (1 + x) - 1) * z := Int.mul_le_mul_of_nonneg_right (by omega) (by omega)
        omega
    · rw [if_neg g] at h
      obtain ⟨a, b, ⟨t, c1, c2⟩, c, e⟩ := L.hd n' o d h
      refine ⟨a, b, ⟨t, List.mem_append_left _ c1, c2⟩, fun t ht hn' => ?_, e⟩
      rcases List.mem_append.mp ht with h | h
      · exact c t h hn'
      · rw [List.mem_singleton.mp h] at hn'
        exact absurd hn'.symm g
theorem Logic.hold (L : Logic z m ns es tks held fr) {n : Str} {o d x : Int} (h : held n = some (o, d)) (h1 : d ≤ x) (h2 : x < z) : Logic z m ns es tks (putH held n (o, x + 1)) fr := by
  refine ⟨L.zp, L.len, L.nm, L.tn, L.T, L.f0, fun n' o' d' h' => ?_⟩
  unfold putH at h'
  by_cases g : n' = n
  · rw [if_pos g] at h'
    cases h'
    subst g
    obtain ⟨a, b, c, e, f⟩ := L.hd n' _ d h
    exact ⟨by omega, by omega, c, e, fun e he hn => by have := f e he hn; omega⟩
  · rw [if_neg g] at h'
    exact L.hd n' o' d' h'
theorem Logic.show (L : Logic z m ns es tks held fr) {n : Str} {o d x : Int} (h : held n = some (o, d)) (h1 : d ≤ x) (h2 : x < z) (hn : n ∈ ns) (hl : (es.length : Int) < m) (h0 : 0 ≤ o) : Logic z m ns (es ++ [(n, o * z + x)]) tks (putH held n (o, x + 1)) fr := by
  have L2 := L.hold h h1 h2
  obtain ⟨a, b, ⟨t, c1, c2, c3⟩, e, f⟩ := L.hd n o d h
  have hzp := L.zp
  have hb : (o * z + x) / z = o := by
    rw [Int.add_comm, Int.add_mul_ediv_right _ _ (by omega), Int.ediv_eq_zero_of_lt (by omega) h2, Int.zero_add]
  refine ⟨L.zp, by rw [List.length_append, List.length_singleton]; omega, fun e' he => ?_, L.tn, L.T.show (e := (n, o * z + x)) c1 c2 (by rw [hb]; exact c3) (fun t ht hn => by rw [hb]; exact e t ht hn) (fun g hg hn => by have := f g hg hn; show g.2 < o * z + x; omega), L.f0, fun n' o' d' h' => ?_⟩
  · rcases List.mem_append.mp he with g | g
    · exact L.nm e' g
    · rw [List.mem_singleton.mp g]
      exact ⟨hn, Int.add_nonneg (Int.mul_nonneg h0 (by omega)) (by omega)⟩
  · obtain ⟨a2, b2, c2, e2, f2⟩ := L2.hd n' o' d' h'
    refine ⟨a2, b2, c2, e2, fun e' he hn' => ?_⟩
    rcases List.mem_append.mp he with g | g
    · exact f2 e' g hn'
    · rw [List.mem_singleton.mp g] at hn' ⊢
      have hq : n = n' := hn'
      subst hq
      unfold putH at h'
      rw [if_pos rfl] at h'
      cases h'
      show o * z + x < o * z + (x + 1)
      omega
end
def TakesAt (H : Hp) (t : Addr) (tks : List Take) : Prop := ∃ us, H t = some (.lst (us.map V.ref)) ∧ Takes H us tks ∧ us.length ≤ 2000
theorem TakesAt.same {H H' : Hp} {t : Addr} {tks : List Take} (h : TakesAt H t tks) (e : Same H H') : TakesAt H' t tks := by
  obtain ⟨us, a, b, c⟩ := h
  exact ⟨us, e _ _ a, b.imp fun _ _ g => e _ _ g, c⟩
theorem TakesAt.stp {fa : Addr} {H H' : Hp} {t : Addr} {tks : List Take} (f : Feed H fa) (h : TakesAt H t tks) (e : Stp fa H H') : TakesAt H' t tks := by
  obtain ⟨us, a, b, c⟩ := h
  exact ⟨us, e.kp _ _ (ne_refs f a) a, b.imp fun _ _ g => e.kp _ _ (ne_tup f g) g, c⟩
def sp_law_story (_ : PySem.W.Frag) : Sp := fun vs H Q _ => ∃ (fa c : Addr) (z m f : Int) (ns : List Str), vs = [.ref fa, .int z, .ref c, .int m, .int f] ∧ Feed H fa ∧ CrewAt H c ns ∧ Crew ns ∧ SizeOk z ∧ 0 ≤ m ∧ m ≤ 200 ∧ 0 < f ∧ f ≤ 10 ^ 100 ∧
  ∀ r s t es tks fr H', H r = none → Stp fa H H' → H' r = some (.lst [.ref s, .ref t]) → EntsAt H' s es → (es.length : Int) ≤ m → (∀ e ∈ es, e.1 ∈ ns ∧ 0 ≤ e.2) → TakesAt H' t tks → Tale z es tks fr → (∀ t ∈ tks, t.n ∈ ns) → (∀ e ∈ es, e.2 < 601 * (f + 4) * z) → Q (.ref r) H'
end NbQ

set_option Elab.async false
set_option linter.all false
set_option maxRecDepth 100000
set_option maxHeartbeats 4000000
/-! Chains of three comparisons; comprehensions over zip and over tuples. -/
namespace NbC
open PySem PySem.Spec PyProof.Rows L2 Nb NbE NbS NbF NbP NbK NbL NbX NbW NbZ NbM NbQ
/-! the scope of a comprehension that holds another one -/
def bAt (b : List Stmt) (i : Nat) : Stmt := b.getD i (.Pass ⟨0, 0, 0, 0⟩)
def forB : Stmt → List Stmt
  | .For _ _ b _ _ => b
  | _ => []
def ifB : Stmt → List Stmt
  | .If _ b _ _ => b
  | _ => []
def elB : Stmt → List Stmt
  | .If _ _ b _ => b
  | _ => []
def asgV : Stmt → Expr
  | .Assign _ v _ => v
  | .Return (some v) _ => v
  | _ => .Constant .none 0 ⟨0, 0, 0, 0⟩
def lcSc : Expr → Scope
  | .ListComp _ _ s _ => s
  | _ => { kind := .function, names := [], isGenerator := false, isCoroutine := false }
def lcEl : Expr → Expr
  | .ListComp e _ _ _ => e
  | e => e
/-- a op1 b op2 c op3 d -/
def tChain3 (r r' r2 : R2) (ta tb tc td : TE) : TE := fun σ H Q => ta σ H fun x H1 => tb σ H1 fun y H2 => r x y H2 fun z H3 => ∃ k, z = .bl k ∧
  (if k = true then tc σ H3 fun w H4 => r' y w H4 fun z2 H5 => ∃ k2, z2 = .bl k2 ∧ (if k2 = true then td σ H5 fun w2 H6 => r2 w w2 H6 Q else Q (.bl false) H5) else Q (.bl false) H3)
section
variable {X : Cx} {a b c d : Expr} {ta tb tc td : TE} {pos : Pos}
theorem pt_chain3 {op op' op2 : CmpOp} {r r' r2 : R2} (ho : OpR X (compareOp op) r) (ho' : OpR X (compareOp op') r') (ho2 : OpR X (compareOp op2) r2) (ha : PE X a ta) (hb : PE X b tb) (hc : PE X c tc) (hd : PE X d td)
    (hm : lastMarks [op, op', op2] [b, c, d] = false := by with_unfolding_all rfl) : PT X (.Compare a [op, op', op2] [b, c, d] pos) (tTest (tChain3 r r' r2 ta tb tc td)) := by
  refine ⟨fun pins s σ H Q I h => ?_⟩
  refine isTrue_chain (thn (ha.run pins s σ H _ I h) fun v s1 ⟨x, H1, I1, r1, q1⟩ => test_link (thn (hb.run pins s1 σ H1 _ I1 q1) fun u s2 ⟨y, H2, I2, r2, q2⟩ =>
    thn (ho pins s2 σ H2 x y v u _ I2 r1 r2 q2) fun d s3 ⟨z, H3, I3, r3, k, e, q3⟩ => ?_)) hm
  subst e
  cases r3
  refine wpAny_truthy_bool ?_
  cases k with
  | false =>
    obtain ⟨k', e', q'⟩ := q3
    cases e'
    exact ite_ff ⟨H3, I3, q'⟩
  | true =>
    refine ite_tt (test_link (thn (hc.run pins s3 σ H3 _ I3 q3) fun w' s4 ⟨z', H4, I4, r4, q4⟩ => thn (ho' pins s4 σ H4 y z' u w' _ I4 r2 r4 q4) fun d' s5 ⟨z2, H5, I5, r5, k2, e2, q5⟩ => ?_))
    subst e2
    cases r5
    refine wpAny_truthy_bool ?_
    cases k2 with
    | false =>
      obtain ⟨k', e', q'⟩ := q5
      cases e'
      exact ite_ff ⟨H5, I5, q'⟩
    | true =>
      refine ite_tt (test_last (thn (hd.run pins s5 σ H5 _ I5 q5) fun w'' s6 ⟨z3, H6, I6, r6, q6⟩ => thn (ho2 pins s6 σ H6 z' z3 w' w'' _ I6 r4 r6 q6) fun d'' s7 ⟨z4, H7, I7, r7, k3, e3, q7⟩ => ?_))
      subst e3
      cases r7
      exact wpAny_truthy_bool ⟨H7, I7, q7⟩
end
section
variable {K : PySem.W.Frag} {a b L : Addr} {g : TG} {tt : TT} {te : TE} {vs : List Nat} {σ : L2.St} {H : Hp} {Q : VK}
theorem comp_tup (xs : List V) (Pv : Nat → Hp → Prop) (h0 : Pv 0 (upd H L (.lst []))) (hl : ∀ i H', i ≤ xs.length → Pv i H' → SqT K H' a xs)
    (hs : ∀ (i : Nat) x H', xs[i]? = some x → Pv i H' → g x (wipe σ vs) H' fun σ2 H2 => wipe σ2 vs = wipe σ vs ∧ tt σ2 H2 fun b H3 =>
      if b = true then te σ2 H3 fun y H4 => ∃ acc, H4 L = some (.lst acc) ∧ acc.length < sizeLine ∧ Pv (i + 1) (upd H4 L (.lst (acc ++ [y]))) else Pv (i + 1) H3) (hd : ∀ H', Pv xs.length H' → Q (.ref L) H') : CompR (Itt K a) g tt te vs σ H L Q :=
  lc_tup (xs := xs) Pv h0 hl hs hd
theorem comp_zip (xs ys : List V) (Pv : Nat → Hp → Prop) (h0 : Pv 0 (upd H L (.lst []))) (hl : ∀ i H', Pv i H' → SqL K H' a xs ∧ SqL K H' b ys)
    (hs : ∀ (i : Nat) x y H' T, xs[i]? = some x → ys[i]? = some y → Pv i H' → H' T = none → g (.ref T) (wipe σ vs) (upd H' T (.tup [x, y])) fun σ2 H2 => wipe σ2 vs = wipe σ vs ∧ tt σ2 H2 fun b H3 =>
      if b = true then te σ2 H3 fun y H4 => ∃ acc, H4 L = some (.lst acc) ∧ acc.length < sizeLine ∧ Pv (i + 1) (upd H4 L (.lst (acc ++ [y]))) else Pv (i + 1) H3) (hd : ∀ H', Pv (min xs.length ys.length) H' → Q (.ref L) H') : CompR (Itz K a b) g tt te vs σ H L Q := by
  refine ⟨fun i m H => m = min xs.length ys.length - i ∧ i ≤ min xs.length ys.length ∧ Pv i H, ⟨_, rfl, Nat.zero_le _, h0⟩, ?_⟩
  rintro i m H ⟨rfl, hi, p⟩
  obtain ⟨q1, q2⟩ := hl i H p
  by_cases hlt : i < min xs.length ys.length
  · have h1 : i < xs.length := by omega
    have h2 : i < ys.length := by omega
    refine .inr ⟨⟨xs, ys, xs[i], ys[i], q1, q2, by simp [h1], by simp [h2]⟩, Pv (i + 1), fun H' p' => ⟨_, by omega, rfl, by omega, p'⟩, fun x H' y => ?_⟩
    obtain ⟨T, x', y', rfl, hT, rfl, z1, z2⟩ := y
    exact hs i x' y' H T (z1 xs q1) (z2 ys q2) p hT
  · have e : i = min xs.length ys.length := by omega
    subst e
    exact .inl ⟨⟨xs, ys, q1, q2, by omega⟩, hd H p⟩
end
theorem pi_listK {X : Cx} {K : PySem.W.Frag} {tg e : Expr} {ta : TE} (hK : X.K = K) (h : PE X e ta) : PI X tg e (iList K ta) := by
  rw [← hK]
  exact pi_list h
theorem keep_snoc {α : Type} (b : Bool) (e : α) : ∀ {fl : List Bool} {es : List α}, fl.length = es.length → NbQ.keep (fl ++ [b]) (es ++ [e]) = NbQ.keep fl es ++ (if b = true then [e] else [])
  | [], [], _ => by cases b <;> rfl
  | x :: fl, y :: es, h => by
    have ih := keep_snoc b e (fl := fl) (es := es) (by simpa using h)
    cases x
    · simpa [NbQ.keep] using ih
    · simp [NbQ.keep, ih]
  | [], _ :: _, h => by simp at h
  | _ :: _, [], h => by simp at h
theorem keep_step {α : Type} {fl : List Bool} {es : List α} {i : Nat} {b : Bool} {e : α} (hb : fl[i]? = some b) (he : es[i]? = some e) : NbQ.keep (fl.take (i + 1)) (es.take (i + 1)) = NbQ.keep (fl.take i) (es.take i) ++ (if b = true then [e] else []) := by
  have h1 := (List.getElem?_eq_some_iff.mp hb).1
  have h2 := (List.getElem?_eq_some_iff.mp he).1
  have e1 : fl.take (i + 1) = fl.take i ++ [b] := by
    rw [List.take_add_one, hb]
    rfl
  have e2 : es.take (i + 1) = es.take i ++ [e] := by
    rw [List.take_add_one, he]
    rfl
  rw [e1, e2, keep_snoc b e (by rw [List.length_take, List.length_take]; omega)]
theorem mem_keep {α : Type} {e : α} : ∀ {fl : List Bool} {es : List α}, e ∈ NbQ.keep fl es → e ∈ es
  | [], _, h => by simp [NbQ.keep] at h
  | _ :: _, [], h => by simp [NbQ.keep] at h
  | true :: fl, x :: es, h => by
    rcases List.mem_cons.mp (show e ∈ x :: NbQ.keep fl es by simpa [NbQ.keep] using h) with rfl | h
    · exact List.mem_cons_self
    · exact List.mem_cons_of_mem _ (mem_keep h)
  | false :: fl, x :: es, h => List.mem_cons_of_mem _ (mem_keep (fl := fl) (by simpa [NbQ.keep] using h))
theorem len_keep {α : Type} : ∀ (fl : List Bool) (es : List α), (NbQ.keep fl es).length ≤ es.length
  | [], _ => by simp [NbQ.keep]
  | _ :: _, [] => by simp [NbQ.keep]
  | true :: fl, x :: es => by simpa [NbQ.keep] using len_keep fl es
  | false :: fl, x :: es => by
    have := len_keep fl es
    simp only [NbQ.keep, Bool.false_eq_true, if_false, List.length_cons]
    omega
theorem keep_front {α : Type} : ∀ (es : List α) (n : Nat), n ≤ es.length → NbQ.keep (List.replicate n true ++ List.replicate (es.length - n) false) es = es.take n
  | [], n, h => by simp [NbQ.keep]
  | x :: es, 0, _ => by
    have ih := keep_front es 0 (Nat.zero_le _)
    simp only [List.replicate_zero, List.nil_append, Nat.sub_zero, List.length_cons, List.replicate_succ, NbQ.keep, List.take_zero] at ih ⊢
    simpa using ih
  | x :: es, n + 1, h => by
    have ih := keep_front es n (by simpa using h)
    rw [List.replicate_succ, List.cons_append, List.take_succ_cons, List.length_cons, Nat.add_sub_add_right]
    show x :: NbQ.keep _ es = _
    rw [ih]
theorem Tale.front {z : Int} {es : List En} {tk : List Take} {fr : Int} {ns : List Str} (T : Tale z es tk fr) (hn : ∀ t ∈ tk, t.n ∈ ns) (n : Nat) (h : n ≤ es.length) : obsD z ns (es.take n) = .none := by
  have T2 := T.keep (fl := List.replicate n true ++ List.replicate (es.length - n) false) (by rw [List.length_append, List.length_replicate, List.length_replicate]; omega)
  rw [keep_front es n h] at T2
  refine T2.obs fun t ht => ?_
  obtain ⟨u, hu, rfl⟩ := List.mem_map.mp ht
  exact hn u hu
theorem wf_keep {z : Int} {ns : List Str} {es : List En} (h : WF z ns es) (fl : List Bool) : WF z ns (NbQ.keep fl es) := wf_sub h (Nat.le_trans (len_keep fl es) h.en.few) fun e he => mem_keep he
theorem cnt_step {fl : List Bool} {i : Nat} {b : Bool} (h : fl[i]? = some b) : (fl.take (i + 1)).filter id = (fl.take i).filter id ++ (if b = true then [true] else []) := by
  rw [List.take_add_one, h, List.filter_append]
  cases b <;> rfl
/-- a log made, told by its address -/
theorem mk_at {K : PySem.W.Frag} {H : Hp} {Pn : Addr → Hp → Prop} {b : Bool} {z : Int} {c s : Addr} {ns : List Str} {es : List En} (hw : WF z ns es) (hc : CrewAt H c ns) (hs : EntsAt H s es) (q : ∀ x H', H x = none → Same H H' → LogAt K H' x b z ns es → Pn x H') :
    ∀ x dx : Addr, H x = none → H dx = none → dx ≠ x → sp_Log_init K [.ref x, .int z, .ref c, .ref s] (upd (upd H dx (.own x)) x (.ins (C2 K b) dx [])) (fun v H2 => v = .non ∧ Pn x H2) C8.E0 := by
  intro x dx hx hd hn
  obtain ⟨p', dx', b', z', c', s', ns', es', h1, h2, h3, h4, h5, h6⟩ := mk_newX (K := K) (Q := fun v H2 => ∀ a, v = .ref a → Pn a H2) (b := b) hw hc hs (fun x H' ls le hx e h _ _ a ea => by
    cases ea
    exact q _ _ hx e h.log) x dx hx hd hn
  refine ⟨p', dx', b', z', c', s', ns', es', h1, h2, h3, h4, h5, fun H' ls le k hl h7 h8 => ?_⟩
  obtain ⟨g1, g2⟩ := h6 H' ls le k hl h7 h8
  exact ⟨g1, g2 x rfl⟩
end NbC
namespace NbC
open PySem PySem.Spec PyProof.Rows L2 Nb NbE NbS NbF NbP NbK NbL NbX NbW NbZ NbM NbQ
/-- [flag for flag in flags[:at] if flag] -/
theorem comp_cnt {K : PySem.W.Frag} {H0 : Hp} {l : Addr} {fl : List Bool} {i : Nat} {σ : L2.St} (hi : i < σ.length) (hl : H0 l = some (.lst (fl.map V.bl))) (hf : fl.length ≤ 200) (s : Nat) {Q : Int → Hp → Prop} (q : ∀ H', Same H0 H' → Q (cnt fl s : Int) H') :
    rSlL K (.ref l) none (some (s : Int)) H0 fun v H1 => ∃ a, v = .ref a ∧ (∃ xs, SqL K H1 a xs) ∧ ∀ L, H1 L = none → CompR (Itl K a) (gName i) (tB (tVar i)) (tVar i) [i] σ H1 L fun x H2 => ∃ p, x = .ref p ∧ ∃ xs : List V, (SqL K H2 p xs ∨ SqT K H2 p xs) ∧ Q (xs.length : Int) H2 := by
  refine ⟨l, _, rfl, SqL.of hl, fun p hp => ⟨p, rfl, ⟨_, SqL.of upd_same⟩, fun L hL => ?_⟩⟩
  have e1 := Same.new (o := .lst (cutV (fl.map V.bl) none (some (s : Int)))) (Same.refl H0) hp
  have hp1 : upd H0 p (.lst (cutV (fl.map V.bl) none (some (s : Int)))) p = some (.lst ((fl.take s).map V.bl)) := by rw [upd_same, cut_to', List.map_take]
  generalize upd H0 p (.lst (cutV (fl.map V.bl) none (some (s : Int)))) = H1 at e1 hp1 hL ⊢
  refine comp_list ((fl.take s).map V.bl) (fun j H' => Same H1 H' ∧ H' L = some (.lst ((((fl.take s).take j).filter id).map V.bl))) ⟨Same.new (Same.refl _) hL, upd_same⟩ (fun j H' _ k => SqL.of (k.1 _ _ hp1)) ?_ ?_
  · rintro j x H' hj ⟨e, g1⟩
    rw [List.getElem?_map] at hj
    obtain ⟨b, hb, rfl⟩ := Option.map_eq_some_iff.mp hj
    rw [cnt_step hb]
    have hlt := (List.getElem?_eq_some_iff.mp hb).1
    rw [List.length_take] at hlt
    have w1 : wipe ((wipe σ [i]).set i (some (V.bl b))) [i] = wipe σ [i] := by
      simp only [wipe, List.set_set]
    have w2 : ((wipe σ [i]).set i (some (V.bl b)))[i]? = some (some (V.bl b)) := by
      rw [List.getElem?_set_self]
      rw [wipe_length]
      exact hi
    refine ⟨w1, .bl b, w2, b, rfl, ?_⟩
    cases b with
    | true =>
      refine ifP rfl ⟨.bl true, w2, _, g1, sz_lt ?_, Nb.Same.mut e hL, ?_⟩
      · rw [List.length_map]
        exact Nat.lt_of_le_of_lt (List.length_filter_le _ _) (by rw [List.length_take, List.length_take]; omega)
      · rw [upd_same, List.map_append]
        rfl
    | false =>
      refine ifN (by decide) ⟨e, ?_⟩
      rw [g1]
      simp
  · rintro H' ⟨e, g1⟩
    rw [List.length_map, List.take_length] at g1
    refine ⟨L, rfl, _, .inl (SqL.of g1), ?_⟩
    rw [List.length_map]
    exact q _ (e1.trans e)
/-! ### tales -/
def sp_law_bent (_ : PySem.W.Frag) : Sp := fun vs H Q _ => ∃ (fa s c : Addr) (z : Int) (ns : List Str) (es : List En), vs = [.ref fa, .ref s, .int z, .ref c] ∧ Feed H fa ∧ EntsAt H s es ∧ CrewAt H c ns ∧ WF z ns es ∧ ∃ B : Int, 0 < B ∧ (∀ e ∈ es, e.2 < B) ∧ ∀ l es' H', H l = none → Stp fa H H' → EntsAt H' l es' → WF z ns es' → (∀ e ∈ es', e.2 < B + 3 * (2 * z)) → es'.length ≤ es.length + 3 → Q (.ref l) H'
def sp_law_tale (_ : PySem.W.Frag) : Sp := fun vs H Q _ => ∃ (fa : Addr) (m : Int), vs = [.ref fa, .int m] ∧ Feed H fa ∧ 0 ≤ m ∧ m ≤ 200 ∧ ∀ l (u : Int) c s ns es H', H l = none → Stp fa H H' → H' l = some (.lst [.int u, .ref c, .ref s]) → CrewAt H' c ns → EntsAt H' s es → WF u ns es → (∀ x ∈ ns, x ∈ N12) → (∀ e ∈ es, e.2 < 10 ^ 60) → (es.length : Int) ≤ m + 3 → Q (.ref l) H'
/-- a list of so many allowed entries -/
def Gd (ns : En → Prop) (n : Nat) (H : Hp) (a : Addr) : Prop := ∃ es, EntsAt H a es ∧ es.length ≤ n ∧ ∀ e ∈ es, ns e
section
variable {K : PySem.W.Frag} {ns : En → Prop} {n m k : Nat} {H H' : Hp} {a b : Addr} {Q : VK}
theorem Gd.same (h : Gd ns n H a) (e : Same H H') : Gd ns n H' a := by
  obtain ⟨es, h1, h2⟩ := h
  exact ⟨es, h1.same e, h2⟩
theorem Gd.stp {fa : Addr} (h : Gd ns n H a) (f : Feed H fa) (e : Stp fa H H') : Gd ns n H' a := by
  obtain ⟨es, h1, h2⟩ := h
  exact ⟨es, h1.stp f e, h2⟩
theorem gd_to (h : Gd ns n H a) (q : ∀ l H', H l = none → Same H H' → Gd ns n H' l → Q (.ref l) H') : rSlL K (.ref a) none (some (k : Int)) H Q := by
  obtain ⟨es, h1, h2, h3⟩ := h
  exact sl_to h1 fun l H' hl e h => q l H' hl e ⟨_, h, Nat.le_trans (List.length_take_le' _ _) h2, fun x hx => h3 x (List.mem_of_mem_take hx)⟩
theorem gd_from (h : Gd ns n H a) (q : ∀ l H', H l = none → Same H H' → Gd ns n H' l → Q (.ref l) H') : rSlL K (.ref a) (some (k : Int)) none H Q := by
  obtain ⟨es, h1, h2, h3⟩ := h
  exact sl_from h1 fun l H' hl e h => q l H' hl e ⟨_, h, by rw [List.length_drop]; omega, fun x hx => h3 x (List.mem_of_mem_drop hx)⟩
theorem gd_from1 (h : Gd ns n H a) (q : ∀ l H', H l = none → Same H H' → Gd ns n H' l → Q (.ref l) H') : rSlL K (.ref a) (some ((k : Int) + 1)) none H Q := by
  have e : (k : Int) + 1 = ((k + 1 : Nat) : Int) := by omega
  rw [e]
  exact gd_from h q
theorem gd_both1 (h : Gd ns n H a) (q : ∀ l H', H l = none → Same H H' → Gd ns n H' l → Q (.ref l) H') : rSlL K (.ref a) (some (k : Int)) (some ((k : Int) + 1)) H Q := by
  obtain ⟨es, h1, h2, h3⟩ := h
  exact sl_both (n := 1) h1 fun l H' hl e h => q l H' hl e ⟨_, h, by rw [List.length_take, List.length_drop]; omega, fun x hx => h3 x (List.mem_of_mem_drop (List.mem_of_mem_take hx))⟩
theorem gd_cat (h : Gd ns n H a) (h' : Gd ns m H b) (hn : n + m ≤ 5000) (q : ∀ l H', H l = none → Same H H' → Gd ns (n + m) H' l → Q (.ref l) H') : rCat (.ref a) (.ref b) H Q := by
  obtain ⟨es, h1, h2, h3⟩ := h
  obtain ⟨fs, g1, g2, g3⟩ := h'
  refine cat_ents h1 g1 (by omega) fun l H' hl e h => q l H' hl e ⟨_, h, by rw [List.length_append]; omega, fun x hx => ?_⟩
  rcases List.mem_append.mp hx with g | g
  · exact h3 x g
  · exact g3 x g
theorem gd_one {t p : Addr} {e : En} (ht : H t = some (.tup [.str e.1, .int e.2])) (he : ns e) (hp : H p = none) : Gd ns 1 (upd H p (.lst [.ref t])) p := by
  refine ⟨[e], ⟨[t], upd_same, upd_keep ht (ne_of_none ht hp), trivial⟩, Nat.le_refl _, fun x hx => ?_⟩
  rw [List.mem_singleton.mp hx]
  exact he
/-- .. of just so many -/
def Gx (ns : En → Prop) (n : Nat) (H : Hp) (a : Addr) : Prop := ∃ es, EntsAt H a es ∧ es.length = n ∧ ∀ e ∈ es, ns e
theorem Gx.same (h : Gx ns n H a) (e : Same H H') : Gx ns n H' a := by
  obtain ⟨es, h1, h2⟩ := h
  exact ⟨es, h1.same e, h2⟩
theorem Gx.gd (h : Gx ns n H a) (hm : n ≤ m) : Gd ns m H a := by
  obtain ⟨es, h1, h2, h3⟩ := h
  exact ⟨es, h1, by omega, h3⟩
theorem gx_to (h : Gx ns n H a) (q : ∀ l H', H l = none → Same H H' → Gx ns (min k n) H' l → Q (.ref l) H') : rSlL K (.ref a) none (some (k : Int)) H Q := by
  obtain ⟨es, h1, h2, h3⟩ := h
  exact sl_to h1 fun l H' hl e h => q l H' hl e ⟨_, h, by rw [List.length_take, h2], fun x hx => h3 x (List.mem_of_mem_take hx)⟩
theorem gx_from (h : Gx ns n H a) (q : ∀ l H', H l = none → Same H H' → Gx ns (n - k) H' l → Q (.ref l) H') : rSlL K (.ref a) (some (k : Int)) none H Q := by
  obtain ⟨es, h1, h2, h3⟩ := h
  exact sl_from h1 fun l H' hl e h => q l H' hl e ⟨_, h, by rw [List.length_drop]; omega, fun x hx => h3 x (List.mem_of_mem_drop hx)⟩
theorem gx_from1 (h : Gx ns n H a) (q : ∀ l H', H l = none → Same H H' → Gx ns (n - (k + 1)) H' l → Q (.ref l) H') : rSlL K (.ref a) (some ((k : Int) + 1)) none H Q := by
  have e : (k : Int) + 1 = ((k + 1 : Nat) : Int) := by omega
  rw [e]
  exact gx_from h q
theorem gx_both1 (h : Gx ns n H a) (q : ∀ l H', H l = none → Same H H' → Gx ns (min 1 (n - k)) H' l → Q (.ref l) H') : rSlL K (.ref a) (some (k : Int)) (some ((k : Int) + 1)) H Q := by
  obtain ⟨es, h1, h2, h3⟩ := h
  exact sl_both (n := 1) h1 fun l H' hl e h => q l H' hl e ⟨_, h, by rw [List.length_take, List.length_drop]; omega, fun x hx => h3 x (List.mem_of_mem_drop (List.mem_of_mem_take hx))⟩
theorem gx_cat (h : Gx ns n H a) (h' : Gx ns m H b) (hn : n + m ≤ 5000) (q : ∀ l H', H l = none → Same H H' → Gx ns (n + m) H' l → Q (.ref l) H') : rCat (.ref a) (.ref b) H Q := by
  obtain ⟨es, h1, h2, h3⟩ := h
  obtain ⟨fs, g1, g2, g3⟩ := h'
  refine cat_ents h1 g1 (by omega) fun l H' hl e h => q l H' hl e ⟨_, h, by rw [List.length_append]; omega, fun x hx => ?_⟩
  rcases List.mem_append.mp hx with g | g
  · exact h3 x g
  · exact g3 x g
theorem gx_one {t p : Addr} {e : En} (ht : H t = some (.tup [.str e.1, .int e.2])) (he : ns e) (hp : H p = none) : Gx ns 1 (upd H p (.lst [.ref t])) p := by
  refine ⟨[e], ⟨[t], upd_same, upd_keep ht (ne_of_none ht hp), trivial⟩, rfl, fun x hx => ?_⟩
  rw [List.mem_singleton.mp hx]
  exact he
theorem gd_wf {es : List En} (hl : es.length ≤ 200) (h : ∀ e ∈ es, ns e) (hs : EntsAt H a es) : Gd ns 200 H a := ⟨es, hs, hl, h⟩
theorem Gd.mono (h : Gd ns n H a) (hm : n ≤ m) : Gd ns m H a := by
  obtain ⟨es, h1, h2, h3⟩ := h
  exact ⟨es, h1, Nat.le_trans h2 hm, h3⟩
theorem Gd.put {o : HO} {xs : List V} (h : Gd ns n H a) (hb : H b = some (.lst xs)) (ne : a ≠ b) : Gd ns n (upd H b o) a := by
  obtain ⟨es, ⟨ts, h1, h1'⟩, h2, h3⟩ := h
  exact ⟨es, ⟨ts, upd_keep h1 ne, h1'.imp fun t ys g => upd_keep g (ne_of g hb (by simp))⟩, h2, h3⟩
/-- a list of entries is no list of lists -/
theorem Gd.ne {x : Addr} {r : List V} (h : Gd ns n H a) (hx : Gd ns m H x) (hb : H b = some (.lst (.ref x :: r))) : a ≠ b := by
  rintro rfl
  obtain ⟨es, ⟨ts, h1, h1'⟩, h2, h3⟩ := h
  obtain ⟨fs, ⟨us, g1, _⟩, _⟩ := hx
  rw [hb] at h1
  cases ts with
  | nil => cases h1
  | cons t ts =>
    simp only [List.map_cons, Option.some.injEq, HO.lst.injEq, List.cons.injEq, V.ref.injEq] at h1
    obtain ⟨rfl, _⟩ := h1
    cases es with
    | nil => exact h1'.elim
    | cons e es =>
      have := h1'.1
      rw [g1] at this
      cases this
end
end NbC

set_option Elab.async false
set_option linter.all false
set_option maxRecDepth 100000
set_option maxHeartbeats 4000000
/-! Entries that bar one another, as the law finds them. -/
namespace NbG
open PySem PySem.Spec PyProof.Rows L2 Nb NbE NbS NbF NbP NbK NbL NbX NbW NbZ NbM NbQ NbC
/-- no number twice, no block of two servers, the numbers of each server ascend -/
structure Fine (z : Int) (es : List En) : Prop where
  two : es.Pairwise fun e f => e.2 ≠ f.2
  sha : es.Pairwise fun e f => e.2 / z = f.2 / z → e.1 = f.1
  bac : es.Pairwise fun e f => e.1 = f.1 → e.2 ≤ f.2
theorem pw_idx {R : En → En → Prop} {es : List En} : es.Pairwise R ↔ ∀ (i j : Nat) (e f : En), i < j → es[i]? = some e → es[j]? = some f → R e f := by
  rw [List.pairwise_iff_getElem]
  constructor
  · intro h i j e f hij hi hj
    obtain ⟨i1, i2⟩ := List.getElem?_eq_some_iff.mp hi
    obtain ⟨j1, j2⟩ := List.getElem?_eq_some_iff.mp hj
    have := h i j i1 j1 hij
    rw [i2, j2] at this
    exact this
  · intro h i j hi hj hij
    exact h i j _ _ hij (List.getElem?_eq_getElem hi) (List.getElem?_eq_getElem hj)
theorem Fine.bar {z : Int} {es : List En} (F : Fine z es) : barD z es = .none := by
  unfold barD
  rw [twO_none es [] (pw_idx.mp F.two)]
  simp only
  rw [shO_none z es [] (pw_idx.mp F.sha)]
  simp only
  rw [baO_none es [] (pw_idx.mp F.bac)]
  rfl
theorem twO_pw : ∀ (r pre : List En), pre.Pairwise (fun e f => e.2 ≠ f.2) → twO pre r = none → (pre ++ r).Pairwise fun e f => e.2 ≠ f.2
  | [], pre, hp, _ => by rw [List.append_nil]; exact hp
  | e :: r, pre, hp, h => by
    rw [twO_cons] at h
    cases hf : pre.findIdx? (fun x => decide (x.2 = e.2)) with
    | some i =>
      rw [hf] at h
      cases h
    | none =>
      rw [hf] at h
      have hn := List.findIdx?_eq_none_iff.mp hf
      have := twO_pw r (pre ++ [e]) (by
        rw [List.pairwise_append]
        refine ⟨hp, by simp, fun x hx y hy => ?_⟩
        rw [List.mem_singleton.mp hy]
        simpa using hn x hx) h
      rw [List.append_assoc] at this
      exact this
theorem shO_pw (z : Int) : ∀ (r pre : List En), pre.Pairwise (fun e f => e.2 / z = f.2 / z → e.1 = f.1) → shO z pre r = none → (pre ++ r).Pairwise fun e f => e.2 / z = f.2 / z → e.1 = f.1
  | [], pre, hp, _ => by rw [List.append_nil]; exact hp
  | e :: r, pre, hp, h => by
    rw [shO_cons] at h
    have key : (∀ x ∈ pre, x.2 / z = e.2 / z → x.1 = e.1) → shO z (pre ++ [e]) r = none → (pre ++ e :: r).Pairwise fun e f => e.2 / z = f.2 / z → e.1 = f.1 := fun k h => by
      have := shO_pw z r (pre ++ [e]) (by
        rw [List.pairwise_append]
        refine ⟨hp, by simp, fun x hx y hy => ?_⟩
        rw [List.mem_singleton.mp hy]
        exact k x hx) h
      rw [List.append_assoc] at this
      exact this
    cases hf : pre.findIdx? (fun x => decide (x.2 / z = e.2 / z)) with
    | some i =>
      rw [hf] at h
      obtain ⟨hi, hd, hlt⟩ := List.findIdx?_eq_some_iff_getElem.mp hf
      have hg : pre.getD i e = pre[i] := by
        rw [List.getD_eq_getElem?_getD, List.getElem?_eq_getElem hi]
        rfl
      simp only [hg] at h
      by_cases hn : pre[i].1 = e.1
      · rw [if_pos hn] at h
        refine key (fun x hx hxz => ?_) h
        obtain ⟨j, hj, rfl⟩ := List.mem_iff_getElem.mp hx
        have hb := of_decide_eq_true hd
        rcases Nat.lt_trichotomy i j with g | g | g
        · rw [← List.pairwise_iff_getElem.mp hp i j hi hj g (hb.trans hxz.symm)]
          exact hn
        · subst g
          exact hn
        · have := hlt j g
          simp [hxz] at this
      · rw [if_neg hn] at h
        cases h
    | none =>
      rw [hf] at h
      have hn := List.findIdx?_eq_none_iff.mp hf
      exact key (fun x hx hxz => absurd hxz (by simpa using hn x hx)) h
theorem lastI_none (n : Str) : ∀ (pre : List En) (k : Nat), lastI n pre k = none → ∀ x ∈ pre, x.1 ≠ n
  | [], _, _ => fun x hx => by simp at hx
  | y :: r, k, h => by
    rw [lastI_cons] at h
    cases g : lastI n r (k + 1) with
    | some j =>
      rw [g] at h
      cases h
    | none =>
      rw [g] at h
      simp only at h
      split at h
      · cases h
      · rename_i hy
        intro x hx
        rcases List.mem_cons.mp hx with rfl | hx
        · exact hy
        · exact lastI_none n r (k + 1) g x hx
theorem lastI_after (n : Str) : ∀ (pre : List En) (k i : Nat), lastI n pre k = some i → ∀ (j : Nat) (x : En), pre[j]? = some x → x.1 = n → k + j ≤ i
  | [], _, _, h => nomatch h
  | y :: r, k, i, h => by
    rw [lastI_cons] at h
    intro j x hj hx
    cases g : lastI n r (k + 1) with
    | some j' =>
      rw [g] at h
      simp only [Option.some.injEq] at h
      subst h
      cases j with
      | zero =>
        have := (lastI_lt n r (k + 1) j' g).1
        omega
      | succ j =>
        have := lastI_after n r (k + 1) j' g j x (by simpa using hj) hx
        omega
    | none =>
      rw [g] at h
      simp only at h
      split at h
      · cases h
        cases j with
        | zero => omega
        | succ j =>
          exact absurd hx (lastI_none n r (k + 1) g x (List.mem_of_getElem? (by simpa using hj)))
      · cases h
theorem baO_pw : ∀ (r pre : List En), pre.Pairwise (fun e f => e.1 = f.1 → e.2 ≤ f.2) → baO pre r = none → (pre ++ r).Pairwise fun e f => e.1 = f.1 → e.2 ≤ f.2
  | [], pre, hp, _ => by rw [List.append_nil]; exact hp
  | e :: r, pre, hp, h => by
    rw [baO_cons] at h
    have key : (∀ x ∈ pre, x.1 = e.1 → x.2 ≤ e.2) → baO (pre ++ [e]) r = none → (pre ++ e :: r).Pairwise fun e f => e.1 = f.1 → e.2 ≤ f.2 := fun k h => by
      have := baO_pw r (pre ++ [e]) (by
        rw [List.pairwise_append]
        refine ⟨hp, by simp, fun x hx y hy => ?_⟩
        rw [List.mem_singleton.mp hy]
        exact k x hx) h
      rw [List.append_assoc] at this
      exact this
    cases hf : lastI e.1 pre 0 with
    | some i =>
      rw [hf] at h
      obtain ⟨y, h1, h2, _⟩ := lastI_name e.1 pre 0 i hf
      rw [Nat.sub_zero] at h1
      have hg : pre.getD i e = y := by
        rw [List.getD_eq_getElem?_getD, h1]
        rfl
      simp only [hg] at h
      by_cases hn : e.2 < y.2
      · rw [if_pos hn] at h
        cases h
      · rw [if_neg hn] at h
        refine key (fun x hx hxn => ?_) h
        obtain ⟨j, hj⟩ := List.mem_iff_getElem?.mp hx
        have hle := lastI_after e.1 pre 0 i hf j x hj hxn
        rcases Nat.lt_or_eq_of_le (show j ≤ i by omega) with g | g
        · have := pw_idx.mp hp j i x y g hj h1 (hxn.trans h2.symm)
          omega
        · subst g
          rw [hj] at h1
          cases h1
          omega
    | none =>
      rw [hf] at h
      exact key (fun x hx hxn => absurd hxn (lastI_none e.1 pre 0 hf x hx)) h
theorem fine_of {z : Int} {es : List En} (h : barD z es = .none) : Fine z es := by
  unfold barD at h
  cases h1 : twO [] es with
  | some p =>
    rw [h1] at h
    cases h
  | none =>
    rw [h1] at h
    simp only at h
    cases h2 : shO z [] es with
    | some p =>
      rw [h2] at h
      cases h
    | none =>
      rw [h2] at h
      simp only at h
      cases h3 : baO [] es with
      | some p =>
        rw [h3] at h
        cases h
      | none => exact ⟨twO_pw es [] List.Pairwise.nil h1, shO_pw z es [] List.Pairwise.nil h2, baO_pw es [] List.Pairwise.nil h3⟩
theorem bar_iff {z : Int} {es : List En} : barD z es = .none ↔ Fine z es := ⟨fine_of, Fine.bar⟩
/-! ### the law's own dicts -/
def lastN (n : Str) (es : List En) : Option Int := (es.filter fun e => decide (e.1 = n)).getLast?.map (·.2)
def lastW (z : Int) (q : Int) (es : List En) : Option Str := (es.filter fun e => decide (e.2 / z = q)).getLast?.map (·.1)
theorem lastN_app (n : Str) (es : List En) (e : En) : lastN n (es ++ [e]) = if e.1 = n then some e.2 else lastN n es := by
  unfold lastN
  rw [List.filter_append]
  by_cases h : e.1 = n
  · rw [if_pos h, List.filter_cons, if_pos (decide_eq_true h)]
    simp
  · rw [if_neg h, List.filter_cons, if_neg (by simp [h])]
    simp
theorem lastW_app (z q : Int) (es : List En) (e : En) : lastW z q (es ++ [e]) = if e.2 / z = q then some e.1 else lastW z q es := by
  unfold lastW
  rw [List.filter_append]
  by_cases h : e.2 / z = q
  · rw [if_pos h, List.filter_cons, if_pos (decide_eq_true h)]
    simp
  · rw [if_neg h, List.filter_cons, if_neg (by simp [h])]
    simp
theorem last_max {R : En → En → Prop} {xs : List En} {y : En} (h : xs.Pairwise R) (hl : xs.getLast? = some y) : y ∈ xs ∧ ∀ x ∈ xs, x = y ∨ R x y := by
  obtain ⟨init, rfl⟩ := List.getLast?_eq_some_iff.mp hl
  refine ⟨by simp, fun x hx => ?_⟩
  rcases List.mem_append.mp hx with g | g
  · exact .inr ((List.pairwise_append.mp h).2.2 x g y (by simp))
  · exact .inl (List.mem_singleton.mp g)
theorem last_none {p : En → Bool} {xs : List En} (hl : (xs.filter p).getLast? = none) : ∀ x ∈ xs, p x = false := fun x hx => by
  have := List.filter_eq_nil_iff.mp (List.getLast?_eq_none_iff.mp hl) x hx
  simpa using this
def Bad (z : Int) (pre : List En) (e : En) : Prop := (∃ x ∈ pre, x.2 = e.2) ∨ e.2 < (lastN e.1 pre).getD (-1) ∨ (lastW z (e.2 / z) pre).getD e.1 ≠ e.1
theorem fine_snoc {z : Int} {pre : List En} {e : En} : Fine z (pre ++ [e]) ↔ Fine z pre ∧ ∀ x ∈ pre, x.2 ≠ e.2 ∧ (x.2 / z = e.2 / z → x.1 = e.1) ∧ (x.1 = e.1 → x.2 ≤ e.2) := by
  constructor
  · rintro ⟨a, b, c⟩
    rw [List.pairwise_append] at a b c
    exact ⟨⟨a.1, b.1, c.1⟩, fun x hx => ⟨a.2.2 x hx e (by simp), b.2.2 x hx e (by simp), c.2.2 x hx e (by simp)⟩⟩
  · rintro ⟨⟨a, b, c⟩, h⟩
    refine ⟨?_, ?_, ?_⟩ <;> rw [List.pairwise_append]
    · exact ⟨a, by simp, fun x hx y hy => by rw [List.mem_singleton.mp hy]; exact (h x hx).1⟩
    · exact ⟨b, by simp, fun x hx y hy => by rw [List.mem_singleton.mp hy]; exact (h x hx).2.1⟩
    · exact ⟨c, by simp, fun x hx y hy => by rw [List.mem_singleton.mp hy]; exact (h x hx).2.2⟩
theorem bad_iff {z : Int} {pre : List En} {e : En} (F : Fine z pre) (h0 : 0 ≤ e.2) : Bad z pre e ↔ ¬ Fine z (pre ++ [e]) := by
  rw [fine_snoc]
  have hN : (e.2 < (lastN e.1 pre).getD (-1)) ↔ ∃ x ∈ pre, x.1 = e.1 ∧ e.2 < x.2 := by
    cases hl : (pre.filter fun x => decide (x.1 = e.1)).getLast? with
    | none =>
      unfold lastN
      rw [hl]
      show e.2 < -1 ↔ _
      refine ⟨fun h => by omega, fun ⟨x, hx, h1, _⟩ => ?_⟩
      have := last_none hl x hx
      simp [h1] at this
    | some y =>
      unfold lastN
      rw [hl]
      show e.2 < y.2 ↔ _
      obtain ⟨m1, m2⟩ := last_max (F.bac.sublist List.filter_sublist) hl
      obtain ⟨k1, k2⟩ := List.mem_filter.mp m1
      refine ⟨fun h => ⟨y, k1, of_decide_eq_true k2, h⟩, fun ⟨x, hx, h1, h2⟩ => ?_⟩
      rcases m2 x (List.mem_filter.mpr ⟨hx, decide_eq_true h1⟩) with g | g
      · rw [← g]
        exact h2
      · have := g (h1.trans (of_decide_eq_true k2).symm)
        omega
  have hW : ((lastW z (e.2 / z) pre).getD e.1 ≠ e.1) ↔ ∃ x ∈ pre, x.2 / z = e.2 / z ∧ x.1 ≠ e.1 := by
    cases hl : (pre.filter fun x => decide (x.2 / z = e.2 / z)).getLast? with
    | none =>
      unfold lastW
      rw [hl]
      show e.1 ≠ e.1 ↔ _
      refine ⟨fun h => absurd rfl h, fun ⟨x, hx, h1, _⟩ => ?_⟩
      have := last_none hl x hx
      simp [h1] at this
    | some y =>
      unfold lastW
      rw [hl]
      show y.1 ≠ e.1 ↔ _
      obtain ⟨m1, m2⟩ := last_max (F.sha.sublist List.filter_sublist) hl
      obtain ⟨k1, k2⟩ := List.mem_filter.mp m1
      refine ⟨fun h => ⟨y, k1, of_decide_eq_true k2, h⟩, fun ⟨x, hx, h1, h2⟩ => ?_⟩
      rcases m2 x (List.mem_filter.mpr ⟨hx, decide_eq_true h1⟩) with g | g
      · rw [← g]
        exact h2
      · rw [← g (h1.trans (of_decide_eq_true k2).symm)]
        exact h2
  unfold Bad
  rw [hN, hW]
  constructor
  · rintro (⟨x, hx, h⟩ | ⟨x, hx, h1, h2⟩ | ⟨x, hx, h1, h2⟩) ⟨_, k⟩
    · exact (k x hx).1 h
    · have := (k x hx).2.2 h1
      omega
    · exact h2 ((k x hx).2.1 h1)
  · intro h
    refine Classical.byContradiction fun hn => h ⟨F, fun x hx => ⟨fun g => hn (.inl ⟨x, hx, g⟩), fun g => Classical.byContradiction fun g2 => hn (.inr (.inr ⟨x, hx, g, g2⟩)), fun g => ?_⟩⟩
    by_cases g2 : x.2 ≤ e.2
    · exact g2
    · exact absurd (.inr (.inl ⟨x, hx, g, by omega⟩)) hn
theorem fine_front {z : Int} {pre r : List En} (h : Fine z (pre ++ r)) : Fine z pre := ⟨(List.pairwise_append.mp h.two).1, (List.pairwise_append.mp h.sha).1, (List.pairwise_append.mp h.bac).1⟩
theorem fine_nil (z : Int) : Fine z [] := ⟨List.Pairwise.nil, List.Pairwise.nil, List.Pairwise.nil⟩
theorem inV_ints (i : Int) (xs : List Int) : inV (.int i) (xs.map V.int) = decide (∃ x ∈ xs, x = i) := by
  unfold inV
  rw [List.any_map, Bool.eq_iff_iff, List.any_eq_true, decide_eq_true_eq]
  constructor
  · rintro ⟨x, hx, h⟩
    refine ⟨x, hx, ?_⟩
    simpa [eqV] using h
  · rintro ⟨x, hx, h⟩
    exact ⟨x, hx, by simp [eqV, h]⟩
theorem flat_ints (xs : List Int) : (xs.map V.int).all flatV = true := by
  rw [List.all_map, List.all_eq_true]
  intro x _
  rfl
def sp_law_fault (_ : PySem.W.Frag) : Sp := fun vs H Q _ => ∃ (s : Addr) (z : Int) (es : List En), vs = [.ref s, .int z] ∧ SizeOk z ∧ EntsAt H s es ∧ es.length ≤ 1000 ∧ (∀ e ∈ es, 0 ≤ e.2) ∧ ∀ b H', Same H H' → (b = true ↔ ¬ Fine z es) → Q (.bl b) H'
/-! ### marks: each seen block and the one below it -/
def marksG : Int → List Int → List Int
  | _, [] => []
  | f, b :: r => (if f < b then [b - 1, b] else [b]) ++ marksG (b + 1) r
theorem marksG_cons (f b : Int) (r : List Int) : marksG f (b :: r) = (if f < b then [b - 1, b] else [b]) ++ marksG (b + 1) r := rfl
theorem marksG_ok : ∀ (xs : List Int) (f : Int), xs.Pairwise (· < ·) → (∀ b ∈ xs, f ≤ b) → (marksG f xs).Pairwise (· < ·) ∧ ∀ q, q ∈ marksG f xs ↔ f ≤ q ∧ ∃ b ∈ xs, q = b ∨ q = b - 1
  | [], _, _, _ => ⟨List.Pairwise.nil, fun q => by simp [marksG]⟩
  | b :: r, f, hp, hb => by
    obtain ⟨p1, p2⟩ := List.pairwise_cons.mp hp
    obtain ⟨i1, i2⟩ := marksG_ok r (b + 1) p2 fun x hx => p1 x hx
    have hfb := hb b List.mem_cons_self
    rw [marksG_cons]
    have hm : ∀ q, q ∈ (if f < b then [b - 1, b] else [b]) ↔ f ≤ q ∧ (q = b ∨ q = b - 1) := fun q => by
      split
      · simp only [List.mem_cons, List.not_mem_nil, or_false]
        omega
      · simp only [List.mem_cons, List.not_mem_nil, or_false]
        omega
    refine ⟨?_, fun q => ?_⟩
    · rw [List.pairwise_append]
      refine ⟨by split <;> simp [Int.sub_lt_self], i1, fun x hx y hy => ?_⟩
      have h1 := (hm x).mp hx
      have h2 := ((i2 y).mp hy).1
      omega
    · rw [List.mem_append, hm, i2]
      constructor
      · rintro (⟨h1, h2⟩ | ⟨h1, b', h2, h3⟩)
        · exact ⟨h1, b, List.mem_cons_self, h2⟩
        · exact ⟨by omega, b', List.mem_cons_of_mem _ h2, h3⟩
      · rintro ⟨h1, b', h2, h3⟩
        rcases List.mem_cons.mp h2 with rfl | h2
        · exact .inl ⟨h1, h3⟩
        · have := p1 b' h2
          by_cases h4 : b + 1 ≤ q
          · exact .inr ⟨h4, b', h2, h3⟩
          · exact .inl ⟨h1, by omega⟩
def marks (z : Int) (es : List En) : List Int := marksG 0 (seen z es)
theorem seen_pos {z : Int} {es : List En} (hz : 1 ≤ z) (h : ∀ e ∈ es, 0 ≤ e.2) : ∀ b ∈ seen z es, 0 ≤ b := fun b hb => by
  obtain ⟨e, he, rfl⟩ := (mem_seen z b es).mp hb
  exact Int.ediv_nonneg (h e he) (by omega)
theorem marks_eq {z : Int} {es : List En} (hz : 1 ≤ z) (h : ∀ e ∈ es, 0 ≤ e.2) {ms : List Int} (hl : ms.Pairwise (· < ·)) (hm : ∀ q, q ∈ ms ↔ ∃ e ∈ es, 0 ≤ q ∧ (q = e.2 / z - 1 ∨ q = e.2 / z)) : ms = marks z es := by
  obtain ⟨m1, m2⟩ := marksG_ok (seen z es) 0 (lt_seen z es) (seen_pos hz h)
  refine eq_of_lt hl m1 fun q => ?_
  rw [hm, show q ∈ marks z es ↔ _ from m2 q]
  constructor
  · rintro ⟨e, he, h0, h1⟩
    exact ⟨h0, e.2 / z, (mem_seen z _ es).mpr ⟨e, he, rfl⟩, by omega⟩
  · rintro ⟨h0, b, hb, h1⟩
    obtain ⟨e, he, rfl⟩ := (mem_seen z b es).mp hb
    exact ⟨e, he, h0, by omega⟩
/-! ### blocks of a gap are alike -/
theorem low_congr {q f : Int} : ∀ (xs : List (Int × Int)) (l : Int), (∀ p ∈ xs, (p.2 < q ↔ p.2 < f)) → NbW.low q xs l = NbW.low f xs l
  | [], _, _ => rfl
  | (i, b) :: r, l, h => by
    rw [low_cons, low_cons]
    have hb : (b < q ↔ b < f) := h (i, b) List.mem_cons_self
    have e : (if b < q then i + 1 else l) = (if b < f then i + 1 else l) := by
      by_cases g : b < q
      · rw [if_pos g, if_pos (hb.mp g)]
      · rw [if_neg g, if_neg (fun k => g (hb.mpr k))]
    rw [e]
    exact low_congr r _ fun p hp => h p (List.mem_cons_of_mem _ hp)
theorem high_congr {q f : Int} : ∀ (xs : List (Int × Int)) (l : Int), (∀ p ∈ xs, (p.2 < q ↔ p.2 < f)) → high q xs l = high f xs l
  | [], _, _ => rfl
  | (i, b) :: r, l, h => by
    rw [high_cons, high_cons]
    have hb : (b < q ↔ b < f) := h (i, b) List.mem_cons_self
    have e : (if b < q then l else min l i) = (if b < f then l else min l i) := by
      by_cases g : b < q
      · rw [if_pos g, if_pos (hb.mp g)]
      · rw [if_neg g, if_neg (fun k => g (hb.mpr k))]
    rw [e]
    exact high_congr r _ fun p hp => h p (List.mem_cons_of_mem _ hp)
theorem plc_blk {z : Int} {n : Str} : ∀ (es : List En) (k : Nat) (p : Int × Int), p ∈ plc z n k es → ∃ e ∈ es, e.2 / z = p.2
  | [], _, _, h => by simp [plc] at h
  | x :: es, k, p, h => by
    rw [plc_cons] at h
    split at h
    · rcases List.mem_cons.mp h with rfl | h
      · exact ⟨x, List.mem_cons_self, rfl⟩
      · obtain ⟨e, he, hz⟩ := plc_blk es (k + 1) p h
        exact ⟨e, List.mem_cons_of_mem _ he, hz⟩
    · obtain ⟨e, he, hz⟩ := plc_blk es (k + 1) p h
      exact ⟨e, List.mem_cons_of_mem _ he, hz⟩
theorem hold_nil {z q : Int} {es : List En} (h : ∀ e ∈ es, e.2 / z ≠ q) : hold z es q = [] := by
  unfold hold
  rw [List.map_eq_nil_iff, List.filter_eq_nil_iff]
  intro e he
  simpa using h e he
theorem wins_gap {z f b q : Int} {es : List En} {ns : List Str} (h : ∀ e ∈ es, e.2 / z < f ∨ b ≤ e.2 / z) (h1 : f ≤ q) (h2 : q < b) : wins z es ns q = wins z es ns f := by
  unfold wins
  congr 1
  funext n
  unfold winO
  rw [hold_nil (fun e he => by have := h e he; omega), hold_nil (fun e he => by have := h e he; omega)]
  have hp : ∀ p ∈ plc z n 0 es, (p.2 < q ↔ p.2 < f) := fun p hp => by
    obtain ⟨e, he, hz⟩ := plc_blk es 0 p hp
    have := h e he
    omega
  rw [low_congr _ _ hp, high_congr _ _ hp]
/-! ### the law's walk from below -/
def walkN (g : Int → Int → Int) (m : Int) : Option Int → List Int → List (Option Int)
  | _, [] => []
  | none, _ :: r => none :: walkN g m none r
  | some s, q :: r => (if m < g q s then none else some (g q s)) :: walkN g m (if m < g q s then none else some (g q s)) r
theorem walkN_none (g : Int → Int → Int) (m : Int) : ∀ r : List Int, ∀ x ∈ walkN g m none r, x = none
  | [], x, h => by simp [walkN] at h
  | _ :: r, x, h => by
    rcases List.mem_cons.mp (show x ∈ none :: walkN g m none r from h) with h | h
    · exact h
    · exact walkN_none g m r x h
/-- the walk over spans ends where the walk over marks does -/
theorem walks_end {z : Int} {es : List En} {ns : List Str} (g : Int → Int → Int) (hg : ∀ q s, g q s = slotF s (wins z es ns q) ((es.length : Int) + 1)) : ∀ (xs : List Int) (f s : Int), xs.Pairwise (· < ·) → (∀ b ∈ xs, f ≤ b) → (∀ e ∈ es, e.2 / z < f ∨ e.2 / z ∈ xs) →
    ((∃ x ∈ walkE g (es.length : Int) s (startsG f xs), (es.length : Int) < x) ↔ none ∈ walkN g (es.length : Int) (some s) (marksG f xs))
  | [], f, s, _, _, _ => by simp [startsG, marksG, walkE, walkN]
  | b :: r, f, s, hp, hb, he => by
    obtain ⟨p1, p2⟩ := List.pairwise_cons.mp hp
    have hfb := hb b List.mem_cons_self
    have ih := fun s => walks_end g hg r (b + 1) s p2 (fun x hx => p1 x hx) fun e hm => by
      rcases he e hm with h | h
      · exact .inl (by omega)
      · rcases List.mem_cons.mp h with h | h
        · exact .inl (by omega)
        · exact .inr h
    have step : ∀ s, ((∃ x ∈ walkE g (es.length : Int) s (b :: startsG (b + 1) r), (es.length : Int) < x) ↔ none ∈ walkN g (es.length : Int) (some s) (b :: marksG (b + 1) r)) := fun s => by
      rw [walkE_cons]
      show _ ↔ none ∈ (if (es.length : Int) < g b s then none else some (g b s)) :: walkN g (es.length : Int) (if (es.length : Int) < g b s then none else some (g b s)) (marksG (b + 1) r)
      by_cases h : (es.length : Int) < g b s
      · rw [if_pos h, if_pos h]
        exact ⟨fun _ => List.mem_cons_self, fun _ => ⟨_, List.mem_singleton.mpr rfl, h⟩⟩
      · rw [if_neg h, if_neg h, List.mem_cons]
        rw [← ih (g b s)]
        constructor
        · rintro ⟨x, hx, h2⟩
          rcases List.mem_cons.mp hx with rfl | hx
          · exact absurd h2 h
          · exact .inr ⟨x, hx, h2⟩
        · rintro (h2 | ⟨x, hx, h2⟩)
          · cases h2
          · exact ⟨x, List.mem_cons_of_mem _ hx, h2⟩
    rw [startsG_cons, marksG_cons]
    by_cases h : f < b
    · rw [if_pos h, if_pos h]
      show ((∃ x ∈ walkE g (es.length : Int) s (f :: b :: startsG (b + 1) r), (es.length : Int) < x) ↔ none ∈ walkN g (es.length : Int) (some s) ((b - 1) :: b :: marksG (b + 1) r))
      have hge : g (b - 1) s = g f s := by
        rw [hg, hg, wins_gap (f := f) (b := b) (fun e hm => ?_) (by omega) (by omega)]
        rcases he e hm with k | k
        · exact .inl k
        · rcases List.mem_cons.mp k with k | k
          · exact .inr (by omega)
          · have := p1 _ k
            exact .inr (by omega)
      rw [walkE_cons]
      show _ ↔ none ∈ (if (es.length : Int) < g (b - 1) s then none else some (g (b - 1) s)) :: walkN g (es.length : Int) (if (es.length : Int) < g (b - 1) s then none else some (g (b - 1) s)) (b :: marksG (b + 1) r)
      rw [hge]
      by_cases h3 : (es.length : Int) < g f s
      · rw [if_pos h3, if_pos h3]
        exact ⟨fun _ => List.mem_cons_self, fun _ => ⟨_, List.mem_singleton.mpr rfl, h3⟩⟩
      · rw [if_neg h3, if_neg h3, List.mem_cons]
        rw [← step (g f s)]
        constructor
        · rintro ⟨x, hx, h2⟩
          rcases List.mem_cons.mp hx with rfl | hx
          · exact absurd h2 h3
          · exact .inr ⟨x, hx, h2⟩
        · rintro (h2 | ⟨x, hx, h2⟩)
          · cases h2
          · exact ⟨x, List.mem_cons_of_mem _ hx, h2⟩
    · rw [if_neg h, if_neg h]
      exact step s
end NbG

set_option Elab.async false
set_option linter.all false
set_option maxRecDepth 100000
set_option maxHeartbeats 4000000
/-! The law's marks and its walk over them. -/
namespace NbH
open PySem PySem.Spec PyProof.Rows L2 Nb NbE NbR NbS NbF NbP NbK NbL NbX NbW NbZ NbM NbQ NbC NbG
def sp_law_marks (K : PySem.W.Frag) : Sp := fun vs H Q _ => ∃ (s : Addr) (z : Int) (es : List En), vs = [.ref s, .int z] ∧ SizeOk z ∧ EntsAt H s es ∧ es.length ≤ 200 ∧ (∀ e ∈ es, 0 ≤ e.2) ∧ NewInts H Q (marks z es)
/-- a mark and its slot, where it has one -/
def mkD (p : Int × Option Int) : PyData := .tuple [.int p.1, match p.2 with | some s => .int s | none => .none]
/-- the law's walk -/
def lwalk (z : Int) (ns : List Str) (es : List En) : List (Int × Option Int) := (marks z es).zip (walkN (sFrom z ns es) (es.length : Int) (some 0) (marks z es))
def sp_law_walk (K : PySem.W.Frag) : Sp := fun vs H Q _ => ∃ (s : Addr) (z : Int) (c : Addr) (ns : List Str) (es : List En), vs = [.ref s, .int z, .ref c] ∧ WF z ns es ∧ EntsAt H s es ∧ CrewAt H c ns ∧ ∀ a vs' H', H a = none → Same H H' → H' a = some (.lst vs') → DpAll K H' vs' ((lwalk z ns es).map mkD) → Q (.ref a) H'
theorem dp_mk {K : PySem.W.Frag} {H : Hp} {L : Addr} {ys : List V} {o : HO} {v : V} {w : Int × Option Int} (hL : H L = some (.lst ys)) (h : Dp K H v (mkD w)) : Dp K (upd H L o) v (mkD w) := by
  obtain ⟨i, j⟩ := w
  cases j <;> cases h with
  | tup a b =>
    refine .tup (sqT_put a hL) ?_
    cases b with
    | cons b1 b2 =>
      cases b1
      cases b2 with
      | cons b1 b2 =>
        cases b1
        cases b2
        first
          | exact .cons (.int _) (.cons (.int _) .nil)
          | exact .cons (.int _) (.cons .non .nil)
theorem dps_mk {K : PySem.W.Frag} {H : Hp} {L : Addr} {ys : List V} {o : HO} (hL : H L = some (.lst ys)) : ∀ {ws : List (Int × Option Int)} {vs : List V}, DpAll K H vs (ws.map mkD) → DpAll K (upd H L o) vs (ws.map mkD)
  | [], _, h => by cases h; exact .nil
  | a :: as, _, h => by
    cases h with
    | cons x y => exact .cons (dp_mk hL x) (dps_mk hL y)
theorem lay_ints : ∀ xs : List Int, PyData.canLayAll0 (xs.map PyData.int) = true
  | [] => rfl
  | x :: xs => by
    show (true && PyData.canLayAll0 (xs.map PyData.int)) = true
    rw [lay_ints xs]
    rfl
theorem dep_ints : ∀ xs : List Int, PyData.depthAll (xs.map PyData.int) = 0
  | [] => rfl
  | x :: xs => by
    show max 0 (PyData.depthAll (xs.map PyData.int)) = 0
    rw [dep_ints xs]
    rfl
theorem shaped_ints (xs : List Int) : SeqAt.shaped (.list (xs.map PyData.int)) = true := by
  unfold SeqAt.shaped
  rw [Bool.and_eq_true]
  refine ⟨lay_ints xs, decide_eq_true ?_⟩
  show PyData.depthAll (xs.map PyData.int) + 1 ≤ 64
  rw [dep_ints]
  decide
theorem dp_ints {K : PySem.W.Frag} {H : Hp} : ∀ xs : List Int, DpAll K H (xs.map V.int) (xs.map PyData.int)
  | [] => .nil
  | x :: xs => .cons (.int _) (dp_ints xs)
theorem eqv_nil (xs : List Int) : PyData.eqv (.list (xs.map PyData.int)) (.list []) = decide (xs = []) := by
  cases xs
  · decide +kernel
  · simp
    rfl
theorem ne_ints {K : PySem.W.Frag} {H : Hp} {l p : Addr} {xs : List Int} {Q : VK} (hl : H l = some (.lst (xs.map V.int))) (hp : H p = some (.lst [])) (q : Q (.bl (!decide (xs = []))) H) : rNeD K (.ref l) (.ref p) H Q :=
  ⟨_, _, .lst (SqL.of hl) (dp_ints xs), .lst (SqL.of hp) .nil, shaped_ints xs, by decide +kernel, by rw [eqv_nil]; exact q⟩
theorem eq_ints {K : PySem.W.Frag} {H : Hp} {l p : Addr} {xs : List Int} {Q : VK} (hl : H l = some (.lst (xs.map V.int))) (hp : H p = some (.lst [])) (q : Q (.bl (decide (xs = []))) H) : rEqD K (.ref l) (.ref p) H Q :=
  ⟨_, _, .lst (SqL.of hl) (dp_ints xs), .lst (SqL.of hp) .nil, shaped_ints xs, by decide +kernel, by rw [eqv_nil]; exact q⟩
/-! ### the least slot -/
def cand (s : Int) (ws : List (Int × Int)) : List Int := (ws.filter fun p => decide (max p.1 s ≤ p.2)).map fun p => max p.1 s
theorem slotF_cand (s : Int) : ∀ (ws : List (Int × Int)) (f : Int), slotF s ws f ≤ f ∧ (∀ c ∈ cand s ws, slotF s ws f ≤ c) ∧ (slotF s ws f = f ∨ slotF s ws f ∈ cand s ws)
  | [], f => ⟨Int.le_refl _, fun c hc => by simp [cand] at hc, .inl rfl⟩
  | p :: r, f => by
    rw [slotF_cons]
    by_cases h : max p.1 s ≤ p.2
    · have hc : cand s (p :: r) = max p.1 s :: cand s r := by
        unfold cand
        rw [List.filter_cons_of_pos (by simpa using h), List.map_cons]
      rw [if_pos h, hc]
      obtain ⟨h1, h2, h3⟩ := slotF_cand s r (min f (max p.1 s))
      refine ⟨by omega, fun c hm => ?_, ?_⟩
      · rcases List.mem_cons.mp hm with rfl | hm
        · omega
        · exact h2 c hm
      · rcases h3 with h3 | h3
        · by_cases h4 : f ≤ max p.1 s
          · exact .inl (by omega)
          · exact .inr (List.mem_cons.mpr (.inl (by omega)))
        · exact .inr (List.mem_cons_of_mem _ h3)
    · have hc : cand s (p :: r) = cand s r := by
        unfold cand
        rw [List.filter_cons_of_neg (by simpa using h)]
      rw [if_neg h, hc]
      exact slotF_cand s r f
theorem cand_app (s : Int) (xs ys : List (Int × Int)) : cand s (xs ++ ys) = cand s xs ++ cand s ys := by
  unfold cand
  rw [List.filter_append, List.map_append]
theorem wins_le {z : Int} {es : List En} {ns : List Str} {q : Int} : ∀ p ∈ wins z es ns q, p.2 ≤ (es.length : Int) := fun p hp => by
  obtain ⟨n, _, h⟩ := List.mem_filterMap.mp hp
  unfold winO at h
  split at h
  · cases h
  · cases h
    exact ((high_ge q z n _ es 0 (es.length : Int)).mp (Int.le_refl _)).1
theorem cand_le {z : Int} {es : List En} {ns : List Str} {q s : Int} : ∀ c ∈ cand s (wins z es ns q), c ≤ (es.length : Int) := fun c hc => by
  obtain ⟨p, hp, rfl⟩ := List.mem_map.mp hc
  have h1 := of_decide_eq_true (List.mem_filter.mp hp).2
  have h2 := wins_le p (List.mem_filter.mp hp).1
  omega
/-- no slot is left: the walk ends -/
theorem cand_nil {z : Int} {es : List En} {ns : List Str} {q s : Int} (h : cand s (wins z es ns q) = []) : (es.length : Int) < sFrom z ns es q s := by
  obtain ⟨h1, h2, h3⟩ := slotF_cand s (wins z es ns q) ((es.length : Int) + 1)
  unfold sFrom
  rcases h3 with h3 | h3
  · omega
  · rw [h] at h3
    cases h3
/-- the least one is the next slot -/
theorem cand_min {z : Int} {es : List En} {ns : List Str} {q s m : Int} (h : m ∈ cand s (wins z es ns q)) (hm : ∀ c ∈ cand s (wins z es ns q), m ≤ c) : sFrom z ns es q s = m ∧ m ≤ (es.length : Int) := by
  obtain ⟨h1, h2, h3⟩ := slotF_cand s (wins z es ns q) ((es.length : Int) + 1)
  have h4 := cand_le m h
  unfold sFrom
  refine ⟨?_, h4⟩
  have h5 := h2 m h
  rcases h3 with h3 | h3
  · omega
  · have := hm _ h3
    omega
theorem wf_pos {z : Int} {ns : List Str} {es : List En} (hw : WF z ns es) : ∀ e ∈ es, 0 ≤ e.2 := fun e he => by
  have := hw.en.ok e he
  unfold enOk at this
  simp only [Bool.and_eq_true, decide_eq_true_eq] at this
  exact this.2
theorem len_marksG : ∀ (xs : List Int) (f : Int), (marksG f xs).length ≤ 2 * xs.length
  | [], _ => Nat.le_refl _
  | b :: r, f => by
    rw [marksG_cons, List.length_append, List.length_cons]
    have := len_marksG r (b + 1)
    split <;> simp only [List.length_cons, List.length_nil] <;> omega
def oV : Option Int → V
  | some s => .int s
  | none => .non
/-! ### where the walk ends, the steps push -/
theorem lastS_nil : lastS [] = 0 := rfl
theorem lastS_cons (p : Int × Int) (r : List (Int × Int)) : lastS (p :: r) = if r = [] then p.2 else lastS r := by
  cases r with
  | nil => rfl
  | cons x xs =>
    rw [if_neg (by simp)]
    unfold lastS
    rw [List.getLast?_cons_cons]
theorem len_walkN (g : Int → Int → Int) (m : Int) : ∀ (qs : List Int) (o : Option Int), (walkN g m o qs).length = qs.length
  | [], o => by cases o <;> rfl
  | q :: r, none => by
    show (none :: walkN g m none r).length = _
    rw [List.length_cons, List.length_cons, len_walkN g m r]
  | q :: r, some s => by
    show ((if m < g q s then none else some (g q s)) :: walkN g m (if m < g q s then none else some (g q s)) r).length = _
    rw [List.length_cons, List.length_cons, len_walkN g m r]
theorem push_end (g : Int → Int → Int) {m : Int} (hm : 0 ≤ m) : ∀ (qs : List Int) (s : Int), s ≤ m → ((∃ x ∈ walkE g m s qs, m < x) ↔ m < lastS (pushG s (qs.zip (walkE g m s qs))))
  | [], s, _ => by
    simp only [walkE, List.not_mem_nil, false_and, exists_false, List.zip_nil_left, pushG, lastS_nil, false_iff]
    omega
  | q :: r, s, hs => by
    rw [walkE_cons]
    by_cases h : m < g q s
    · rw [if_pos h, List.zip_cons_cons, List.zip_nil_right, pushG_cons, if_pos (by show s < g q s; omega)]
      refine ⟨fun _ => ?_, fun _ => ⟨_, List.mem_singleton.mpr rfl, h⟩⟩
      exact h
    · rw [if_neg h, List.zip_cons_cons, pushG_cons]
      have ih := push_end g hm r (g q s) (by omega)
      have e1 : (∃ x ∈ g q s :: walkE g m (g q s) r, m < x) ↔ ∃ x ∈ walkE g m (g q s) r, m < x := by
        constructor
        · rintro ⟨x, hx, h2⟩
          rcases List.mem_cons.mp hx with rfl | hx
          · exact absurd h2 h
          · exact ⟨x, hx, h2⟩
        · rintro ⟨x, hx, h2⟩
          exact ⟨x, List.mem_cons_of_mem _ hx, h2⟩
      rw [e1, ih]
      show m < lastS (pushG (g q s) (r.zip (walkE g m (g q s) r))) ↔ m < lastS ((if s < g q s then [(q, g q s)] else []) ++ pushG (g q s) (r.zip (walkE g m (g q s) r)))
      by_cases h2 : s < g q s
      · rw [if_pos h2, List.singleton_append, lastS_cons]
        by_cases h3 : pushG (g q s) (r.zip (walkE g m (g q s) r)) = []
        · rw [if_pos h3, h3, lastS_nil]
          show m < 0 ↔ m < g q s
          omega
        · rw [if_neg h3]
      · rw [if_neg h2, List.nil_append]
/-- the program's steps end where the law's walk does -/
theorem pushed_iff {z : Int} {ns : List Str} {es : List En} (hz : 1 ≤ z) (pos : ∀ e ∈ es, 0 ≤ e.2) : (es.length : Int) < lastS (push z ns es) ↔ ∃ x ∈ lwalk z ns es, x.2 = none := by
  have h1 := push_end (sFrom z ns es) (m := (es.length : Int)) (by omega) (starts z es) 0 (by omega)
  have h2 := walks_end (z := z) (es := es) (ns := ns) (sFrom z ns es) (fun q s => rfl) (seen z es) 0 0 (lt_seen z es) (seen_pos hz pos) fun e he => .inr ((mem_seen z _ es).mpr ⟨e, he, rfl⟩)
  have h3 : none ∈ walkN (sFrom z ns es) (es.length : Int) (some 0) (marks z es) ↔ ∃ x ∈ lwalk z ns es, x.2 = none := by
    have hl := len_walkN (sFrom z ns es) (es.length : Int) (marks z es) (some 0)
    constructor
    · intro h
      obtain ⟨i, hi, hx⟩ := List.mem_iff_getElem.mp h
      refine ⟨((marks z es)[i]'(by omega), none), ?_, rfl⟩
      refine List.mem_iff_getElem?.mpr ⟨i, ?_⟩
      unfold lwalk
      rw [List.getElem?_zip_eq_some]
      exact ⟨List.getElem?_eq_getElem _, by rw [List.getElem?_eq_getElem hi, hx]⟩
    · rintro ⟨⟨q, o⟩, hx, rfl⟩
      exact (List.of_mem_zip hx).2
  exact h1.symm.trans (h2.trans h3)
/-- no obstacle, exactly where nothing bars and the walk goes through -/
theorem obs_iff {z : Int} {ns : List Str} {es : List En} (hz : 1 ≤ z) (pos : ∀ e ∈ es, 0 ≤ e.2) : obsD z ns es = .none ↔ Fine z es ∧ ¬ ∃ x ∈ lwalk z ns es, x.2 = none := by
  rw [← pushed_iff hz pos]
  by_cases h : barD z es = .none
  · rw [obs_none h]
    have F := bar_iff.mp h
    unfold pushedD
    by_cases h2 : (es.length : Int) < lastS (push z ns es)
    · rw [if_pos h2]
      exact ⟨fun k => (by cases k), fun k => absurd h2 k.2⟩
    · rw [if_neg h2]
      exact ⟨fun _ => ⟨F, h2⟩, fun _ => rfl⟩
  · rw [obs_some h]
    exact ⟨fun k => absurd k h, fun k => absurd (bar_iff.mpr k.1) h⟩
/-! ### steps -/
/-- steps that are right: blocks and slots ascend, and no slot from the former one on is left before the next -/
def SOk (z : Int) (ns : List Str) (es : List En) : Int → Int → List (Int × Int) → Prop
  | _, s, [] => s = (es.length : Int) + 1
  | low, s, p :: r => low < p.1 ∧ (∃ e ∈ es, p.1 ≤ e.2 / z) ∧ s < p.2 ∧ p.2 ≤ (es.length : Int) + 1 ∧ sFrom z ns es p.1 s = p.2 ∧ SOk z ns es p.1 p.2 r
theorem slotF_ge (s : Int) : ∀ (ws : List (Int × Int)) (f : Int), s ≤ f → s ≤ slotF s ws f
  | [], f, h => h
  | p :: r, f, h => by
    rw [slotF_cons]
    refine slotF_ge s r _ ?_
    split <;> omega
theorem sFrom_ge {z : Int} {ns : List Str} {es : List En} {q s : Int} (h : s ≤ (es.length : Int) + 1) : s ≤ sFrom z ns es q s := slotF_ge s _ _ h
theorem sFrom_le {z : Int} {ns : List Str} {es : List En} {q s : Int} : sFrom z ns es q s ≤ (es.length : Int) + 1 := (slotF_cand s _ _).1
theorem startsG_ok : ∀ (xs : List Int) (f : Int), xs.Pairwise (· < ·) → (∀ b ∈ xs, f ≤ b) → (startsG f xs).Pairwise (· < ·) ∧ ∀ q ∈ startsG f xs, f ≤ q ∧ ∃ b ∈ xs, q ≤ b
  | [], f, _, _ => ⟨List.Pairwise.nil, fun q hq => by simp [startsG] at hq⟩
  | b :: r, f, hp, hb => by
    obtain ⟨p1, p2⟩ := List.pairwise_cons.mp hp
    have hfb := hb b List.mem_cons_self
    obtain ⟨i1, i2⟩ := startsG_ok r (b + 1) p2 fun x hx => p1 x hx
    rw [startsG_cons]
    have hm : ∀ q, q ∈ (if f < b then [f, b] else [b]) → f ≤ q ∧ q ≤ b := fun q hq => by
      split at hq <;> simp only [List.mem_cons, List.not_mem_nil, or_false] at hq <;> omega
    refine ⟨List.pairwise_append.mpr ⟨by split <;> simp_all, i1, fun x hx y hy => ?_⟩, fun q hq => ?_⟩
    · have h1 := (hm x hx).2
      have h2 := (i2 y hy).1
      omega
    · rcases List.mem_append.mp hq with hq | hq
      · exact ⟨(hm q hq).1, b, List.mem_cons_self, (hm q hq).2⟩
      · obtain ⟨h1, b', h2, h3⟩ := i2 q hq
        exact ⟨by omega, b', List.mem_cons_of_mem _ h2, h3⟩
theorem push_ok {z : Int} {ns : List Str} {es : List En} : ∀ (qs : List Int) (low s : Int), qs.Pairwise (· < ·) → (∀ q ∈ qs, low < q ∧ ∃ e ∈ es, q ≤ e.2 / z) → s ≤ (es.length : Int) → (es.length : Int) < lastS (pushG s (qs.zip (walkE (sFrom z ns es) (es.length : Int) s qs))) → SOk z ns es low s (pushG s (qs.zip (walkE (sFrom z ns es) (es.length : Int) s qs)))
  | [], low, s, _, _, _, h => by
    simp only [walkE, List.zip_nil_left, pushG, lastS_nil] at h
    omega
  | q :: r, low, s, hp, hq, hs, h => by
    obtain ⟨p1, p2⟩ := List.pairwise_cons.mp hp
    obtain ⟨q1, q2⟩ := hq q List.mem_cons_self
    have ge : s ≤ sFrom z ns es q s := sFrom_ge (by omega)
    have le : sFrom z ns es q s ≤ (es.length : Int) + 1 := sFrom_le
    rw [walkE_cons] at h ⊢
    by_cases h1 : (es.length : Int) < sFrom z ns es q s
    · rw [if_pos h1, List.zip_cons_cons, List.zip_nil_right, pushG_cons, if_pos (by show s < sFrom z ns es q s; omega)]
      exact ⟨q1, q2, by show s < sFrom z ns es q s; omega, le, rfl, by show sFrom z ns es q s = _; omega⟩
    · rw [if_neg h1, List.zip_cons_cons, pushG_cons] at h ⊢
      have ih := fun (low : Int) (hl : low ≤ q) => push_ok (z := z) (ns := ns) (es := es) r low (sFrom z ns es q s) p2 (fun x hx => ⟨by have := p1 x hx; omega, (hq x (List.mem_cons_of_mem _ hx)).2⟩) (by omega)
      by_cases h2 : s < sFrom z ns es q s
      · rw [if_pos h2, List.singleton_append, lastS_cons] at h
        rw [if_pos h2, List.singleton_append]
        by_cases h3 : pushG (sFrom z ns es q s) (r.zip (walkE (sFrom z ns es) (es.length : Int) (sFrom z ns es q s) r)) = []
        · rw [if_pos h3] at h
          exact absurd h h1
        · rw [if_neg h3] at h
          exact ⟨q1, q2, h2, le, rfl, ih q (Int.le_refl _) h⟩
      · rw [if_neg h2, List.nil_append] at h ⊢
        have e : sFrom z ns es q s = s := by omega
        have := ih low (by omega) h
        show SOk z ns es low s (pushG (sFrom z ns es q s) _)
        rw [e] at this ⊢
        exact this
theorem steps_ok {z : Int} {ns : List Str} {es : List En} (hz : 1 ≤ z) (pos : ∀ e ∈ es, 0 ≤ e.2) (h : (es.length : Int) < lastS (push z ns es)) : SOk z ns es (-1) 0 (push z ns es) := by
  obtain ⟨h1, h2⟩ := startsG_ok (seen z es) 0 (lt_seen z es) (seen_pos hz pos)
  refine push_ok (starts z es) (-1) 0 h1 (fun q hq => ?_) (by omega) h
  obtain ⟨k1, b, k2, k3⟩ := h2 q hq
  obtain ⟨e, he, rfl⟩ := (mem_seen z b es).mp k2
  exact ⟨by omega, e, he, k3⟩
/-! ### pairs that bar -/
/-- two entries that bar one another, in the way that the word names -/
def POk (z : Int) (es : List En) (w : Str) (i j : Nat) : Prop := i < j ∧ ∃ e f, es[i]? = some e ∧ es[j]? = some f ∧ (w = "twice" ∧ e.2 = f.2 ∨ w = "shared" ∧ e.1 ≠ f.1 ∧ e.2 / z = f.2 / z ∨ w = "back" ∧ e.1 = f.1 ∧ f.2 < e.2)
theorem mid_at (pre r : List En) (e : En) : (pre ++ e :: r)[pre.length]? = some e := by
  rw [List.getElem?_append_right (Nat.le_refl _), Nat.sub_self]
  rfl
theorem pre_at {pre : List En} {i : Nat} {x : En} (r : List En) (h : pre[i]? = some x) : (pre ++ r)[i]? = some x := by
  rw [List.getElem?_append_left (List.getElem?_eq_some_iff.mp h).1]
  exact h
theorem find_at {p : En → Bool} {pre : List En} {i : Nat} (h : pre.findIdx? p = some i) : ∃ x, pre[i]? = some x ∧ p x = true := by
  obtain ⟨a, b, _⟩ := List.findIdx?_eq_some_iff_getElem.mp h
  exact ⟨pre[i], List.getElem?_eq_getElem a, b⟩
theorem lastI_at (n : Str) : ∀ (pre : List En) (k i : Nat), lastI n pre k = some i → ∃ t x, i = k + t ∧ pre[t]? = some x ∧ x.1 = n
  | [], _, _, h => nomatch h
  | e :: r, k, i, h => by
    rw [lastI_cons] at h
    cases g : lastI n r (k + 1) with
    | some j =>
      rw [g] at h
      cases h
      obtain ⟨t, x, h1, h2, h3⟩ := lastI_at n r (k + 1) _ g
      exact ⟨t + 1, x, by omega, by simpa using h2, h3⟩
    | none =>
      rw [g] at h
      simp only at h
      split at h
      · cases h
        exact ⟨0, e, rfl, rfl, by assumption⟩
      · cases h
theorem twO_ok (z : Int) : ∀ (r pre : List En) (i j : Nat), twO pre r = some (i, j) → POk z (pre ++ r) "twice" i j
  | [], _, _, _, h => nomatch h
  | e :: r, pre, i, j, h => by
    rw [twO_cons] at h
    cases g : pre.findIdx? (fun x => decide (x.2 = e.2)) with
    | some k =>
      rw [g] at h
      cases h
      obtain ⟨x, h1, h2⟩ := find_at g
      exact ⟨(List.getElem?_eq_some_iff.mp h1).1, x, e, pre_at _ h1, mid_at _ _ _, .inl ⟨rfl, of_decide_eq_true h2⟩⟩
    | none =>
      rw [g] at h
      have := twO_ok z r (pre ++ [e]) i j h
      rw [List.append_assoc] at this
      exact this
theorem shO_ok (z : Int) : ∀ (r pre : List En) (i j : Nat), shO z pre r = some (i, j) → POk z (pre ++ r) "shared" i j
  | [], _, _, _, h => nomatch h
  | e :: r, pre, i, j, h => by
    rw [shO_cons] at h
    have next : shO z (pre ++ [e]) r = some (i, j) → POk z (pre ++ e :: r) "shared" i j := fun h => by
      have := shO_ok z r (pre ++ [e]) i j h
      rw [List.append_assoc] at this
      exact this
    cases g : pre.findIdx? (fun x => decide (x.2 / z = e.2 / z)) with
    | some k =>
      rw [g] at h
      simp only at h
      obtain ⟨x, h1, h2⟩ := find_at g
      have hd : pre.getD k e = x := by rw [List.getD_eq_getElem?_getD, h1]; rfl
      rw [hd] at h
      by_cases h3 : x.1 = e.1
      · rw [if_pos h3] at h
        exact next h
      · rw [if_neg h3] at h
        cases h
        exact ⟨(List.getElem?_eq_some_iff.mp h1).1, x, e, pre_at _ h1, mid_at _ _ _, .inr (.inl ⟨rfl, h3, of_decide_eq_true h2⟩)⟩
    | none =>
      rw [g] at h
      exact next h
theorem baO_ok (z : Int) : ∀ (r pre : List En) (i j : Nat), baO pre r = some (i, j) → POk z (pre ++ r) "back" i j
  | [], _, _, _, h => nomatch h
  | e :: r, pre, i, j, h => by
    rw [baO_cons] at h
    have next : baO (pre ++ [e]) r = some (i, j) → POk z (pre ++ e :: r) "back" i j := fun h => by
      have := baO_ok z r (pre ++ [e]) i j h
      rw [List.append_assoc] at this
      exact this
    cases g : lastI e.1 pre 0 with
    | some k =>
      rw [g] at h
      simp only at h
      obtain ⟨t, x, h0, h1, h2⟩ := lastI_at e.1 pre 0 k g
      obtain rfl : k = t := by omega
      have hd : pre.getD k e = x := by rw [List.getD_eq_getElem?_getD, h1]; rfl
      rw [hd] at h
      by_cases h3 : e.2 < x.2
      · rw [if_pos h3] at h
        cases h
        exact ⟨(List.getElem?_eq_some_iff.mp h1).1, x, e, pre_at _ h1, mid_at _ _ _, .inr (.inr ⟨rfl, h2, h3⟩)⟩
      · rw [if_neg h3] at h
        exact next h
    | none =>
      rw [g] at h
      exact next h
theorem bar_ok (z : Int) (es : List En) : barD z es = .none ∨ ∃ w i j, barD z es = duoD w (some (i, j)) ∧ POk z es w i j := by
  unfold barD
  cases h1 : twO [] es with
  | some p => exact .inr ⟨_, p.1, p.2, rfl, twO_ok z es [] _ _ h1⟩
  | none =>
    simp only
    cases h2 : shO z [] es with
    | some p => exact .inr ⟨_, p.1, p.2, rfl, shO_ok z es [] _ _ h2⟩
    | none =>
      simp only
      cases h3 : baO [] es with
      | some p => exact .inr ⟨_, p.1, p.2, rfl, baO_ok z es [] _ _ h3⟩
      | none => exact .inl rfl
/-- what an obstacle can be -/
theorem obs_ok {z : Int} {ns : List Str} {es : List En} (hz : 1 ≤ z) (pos : ∀ e ∈ es, 0 ≤ e.2) : obsD z ns es = .none ∨ (∃ w i j, obsD z ns es = duoD w (some (i, j)) ∧ POk z es w i j) ∨ (obsD z ns es = .tuple [.str "pushed", .list ((push z ns es).map p2D)] ∧ Fine z es ∧ SOk z ns es (-1) 0 (push z ns es) ∧ push z ns es ≠ []) := by
  rcases bar_ok z es with h | ⟨w, i, j, h1, h2⟩
  · rw [obs_none h]
    have F := bar_iff.mp h
    unfold pushedD
    by_cases h2 : (es.length : Int) < lastS (push z ns es)
    · rw [if_pos h2]
      refine .inr (.inr ⟨rfl, F, steps_ok hz pos h2, fun h3 => ?_⟩)
      rw [h3, lastS_nil] at h2
      omega
    · rw [if_neg h2]
      exact .inl rfl
  · have hb : ¬ barD z es = .none := by
      rw [h1]
      exact fun k => by cases k
    rw [obs_some hb]
    exact .inr (.inl ⟨w, i, j, h1, h2⟩)
/-! ### what shows an obstacle -/
inductive Thing where
  | two (w : Str) (i j : Nat)
  | pushed (st : List (Int × Int))
def ThingAt (H : Hp) (t : Addr) : Thing → Prop
  | .two w i j => H t = some (.tup [.str w, .int (i : Int), .int (j : Int)])
  | .pushed st => ∃ a ys, H t = some (.tup [.str "pushed", .ref a]) ∧ H a = some (.lst ys) ∧ StepsAt H ys st
def Right (z : Int) (ns : List Str) (es : List En) : Thing → Prop
  | .two w i j => POk z es w i j
  | .pushed st => Fine z es ∧ SOk z ns es (-1) 0 st ∧ st ≠ []
theorem SOk.len {z : Int} {ns : List Str} {es : List En} : ∀ {st : List (Int × Int)} {low s : Int}, SOk z ns es low s st → s + (st.length : Int) ≤ (es.length : Int) + 1
  | [], low, s, h => by
    show s + 0 ≤ _
    have : s = (es.length : Int) + 1 := h
    omega
  | p :: r, low, s, ⟨_, _, h1, _, _, h2⟩ => by
    have := SOk.len h2
    rw [List.length_cons]
    omega
theorem SOk.last {z : Int} {ns : List Str} {es : List En} : ∀ {st : List (Int × Int)} {low s : Int}, SOk z ns es low s st → (st ≠ [] → ∃ p, st.getLast? = some p ∧ p.2 = (es.length : Int) + 1 ∧ ∃ e ∈ es, p.1 ≤ e.2 / z)
  | [], low, s, h => fun k => (k rfl).elim
  | [p], low, s, ⟨_, h1, _, _, _, h2⟩ => fun _ => ⟨p, rfl, h2, h1⟩
  | p :: x :: r, low, s, ⟨_, _, _, _, _, h2⟩ => fun _ => by
    obtain ⟨q, k1, k2⟩ := SOk.last h2 (by simp)
    exact ⟨q, by rw [List.getLast?_cons_cons]; exact k1, k2⟩
theorem maxDf_ge (d : Int) : ∀ ys : List Int, ∀ y ∈ ys, y ≤ maxDf d ys := by
  have k : ∀ (ys : List Int) (a : Int), a ≤ ys.foldl max a ∧ ∀ y ∈ ys, y ≤ ys.foldl max a := by
    intro ys
    induction ys with
    | nil => intro a; exact ⟨Int.le_refl _, fun y hy => by cases hy⟩
    | cons x r ih =>
      intro a
      obtain ⟨h1, h2⟩ := ih (max a x)
      refine ⟨by show a ≤ r.foldl max (max a x); omega, fun y hy => ?_⟩
      rcases List.mem_cons.mp hy with rfl | hy
      · show y ≤ r.foldl max (max a y)
        omega
      · exact h2 y hy
  intro ys y hy
  cases ys with
  | nil => cases hy
  | cons x r =>
    obtain ⟨h1, h2⟩ := k r x
    rcases List.mem_cons.mp hy with rfl | hy
    · exact h1
    · exact h2 y hy
theorem topB_le {z : Int} {es : List En} {e : En} (he : e ∈ es) : e.2 / z ≤ topB z es := maxDf_ge _ _ _ (List.mem_map.mpr ⟨e, he, rfl⟩)
theorem SOk.first {z : Int} {ns : List Str} {es : List En} {low s : Int} {st : List (Int × Int)} {p : Int × Int} (h : SOk z ns es low s st) (hp : st[0]? = some p) : low < p.1 := by
  cases st with
  | nil => cases hp
  | cons x r =>
    cases hp
    exact h.1
theorem lay_steps : ∀ st : List (Int × Int), PyData.canLayAll0 (st.map p2D) = true
  | [] => rfl
  | x :: st => by
    show ((true && (true && true)) && PyData.canLayAll0 (st.map p2D)) = true
    rw [lay_steps st]
    rfl
theorem dep_steps : ∀ st : List (Int × Int), PyData.depthAll (st.map p2D) ≤ 1
  | [] => Nat.zero_le _
  | e :: es => by
    show max (max 0 (max 0 0) + 1) (PyData.depthAll (es.map p2D)) ≤ 1
    have := dep_steps es
    simp only [Nat.max_self, Nat.zero_add]
    omega
theorem shaped_steps (st : List (Int × Int)) : SeqAt.shaped (.list (st.map p2D)) = true := by
  unfold SeqAt.shaped
  rw [Bool.and_eq_true]
  refine ⟨lay_steps st, decide_eq_true ?_⟩
  show PyData.depthAll (st.map p2D) + 1 ≤ 64
  have := dep_steps st
  omega
theorem eq_steps {K : PySem.W.Frag} {H : Hp} {l p : Addr} {ys : List V} {st : List (Int × Int)} {Q : VK} (hl : H l = some (.lst ys)) (h : StepsAt H ys st) (hne : st ≠ []) (hp : H p = some (.lst [])) (q : Q (.bl false) H) : rEqD K (.ref l) (.ref p) H Q := by
  refine ⟨_, _, .lst (SqL.of hl) h.dp, .lst (SqL.of hp) .nil, shaped_steps st, by decide +kernel, ?_⟩
  cases st with
  | nil => exact absurd rfl hne
  | cons x r => exact q
/-- the slots before each step's -/
def formers (st : List (Int × Int)) : List Int := 0 :: st.map (·.2)
theorem SOk.at {z : Int} {ns : List Str} {es : List En} : ∀ {st : List (Int × Int)} {low s : Int} {i : Nat} {p : Int × Int} {f : Int}, SOk z ns es low s st → st[i]? = some p → (s :: st.map (·.2))[i]? = some f → sFrom z ns es p.1 f = p.2
  | [], _, _, i, p, f, _, h, _ => by simp at h
  | x :: r, low, s, 0, p, f, ⟨_, _, _, _, k, _⟩, h, g => by
    cases h
    cases g
    exact k
  | x :: r, low, s, i + 1, p, f, ⟨_, _, _, _, _, k⟩, h, g => SOk.at k (by simpa using h) (by simpa using g)
def sp_is_step (_ : PySem.W.Frag) : Sp := fun vs H Q _ => ∃ (t : Addr) (p : Int × Int), vs = [.ref t] ∧ H t = some (.tup [.int p.1, .int p.2]) ∧ ∀ H', Same H H' → Q (.bl true) H'
def sp_steps_ascend (_ : PySem.W.Frag) : Sp := fun vs H Q _ => ∃ (a : Addr) (ys : List V) (st : List (Int × Int)) (z : Int) (ns : List Str) (es : List En), vs = [.ref a] ∧ H a = some (.lst ys) ∧ StepsAt H ys st ∧ SOk z ns es (-1) 0 st ∧ st ≠ [] ∧ ∀ H', Same H H' → Q (.bl true) H'
def sp_shows_pushed (K : PySem.W.Frag) : Sp := fun vs H Q _ => ∃ (p : Addr) (b : Bool) (z : Int) (ns : List Str) (es : List En) (a : Addr) (ys : List V) (st : List (Int × Int)), vs = [.ref p, .ref a] ∧ LogAt K H p b z ns es ∧ H a = some (.lst ys) ∧ StepsAt H ys st ∧ Fine z es ∧ SOk z ns es (-1) 0 st ∧ st ≠ [] ∧ ∀ H', Same H H' → Q (.bl true) H'
def sp_shows_pair (K : PySem.W.Frag) : Sp := fun vs H Q _ => ∃ (p : Addr) (b : Bool) (z : Int) (ns : List Str) (es : List En) (w : Str) (i j : Nat), vs = [.ref p, .str w, .int (i : Int), .int (j : Int)] ∧ LogAt K H p b z ns es ∧ POk z es w i j ∧ ∀ H', Same H H' → Q (.bl true) H'
def sp_shows_obstacle (K : PySem.W.Frag) : Sp := fun vs H Q _ => ∃ (p : Addr) (b : Bool) (z : Int) (ns : List Str) (es : List En) (v : V), vs = [.ref p, v] ∧ LogAt K H p b z ns es ∧ (v = .non ∧ (∀ H', Same H H' → Q (.bl false) H') ∨ ∃ t th, v = .ref t ∧ ThingAt H t th ∧ Right z ns es th ∧ ∀ H', Same H H' → Q (.bl true) H')
theorem loop_tup {K : PySem.W.Frag} {a : Addr} {g : TG} {tb : TS} {D : Ends} {σ : L2.St} {H : Hp} (xs : List V) (Pv : Nat → L2.St → Hp → Prop) (h0 : Pv 0 σ H) (hl : ∀ i σ' H', i ≤ xs.length → Pv i σ' H' → SqT K H' a xs)
    (hs : ∀ (i : Nat) x σ' H', xs[i]? = some x → Pv i σ' H' → g x σ' H' fun σ2 H2 => tb { D with nx := Pv (i + 1), ct := Pv (i + 1), bk := D.nx } σ2 H2) (hd : ∀ σ' H', Pv xs.length σ' H' → D.nx σ' H') : LoopR (Itt K a) g tb D σ H :=
  for_tup Pv h0 hl hs hd
/-! ### the law's own judgement -/
def sp_law_two (_ : PySem.W.Frag) : Sp := fun vs H Q _ => ∃ (s : Addr) (z : Int) (es : List En) (t : Addr) (w : Str) (i j : Nat), vs = [.ref s, .int z, .ref t] ∧ SizeOk z ∧ es.length ≤ 200 ∧ EntsAt H s es ∧ H t = some (.tup [.str w, .int (i : Int), .int (j : Int)]) ∧ POk z es w i j ∧ ∀ H', Same H H' → Q (.bl true) H'
def sp_law_steps (_ : PySem.W.Frag) : Sp := fun vs H Q _ => ∃ (s : Addr) (z : Int) (c : Addr) (ns : List Str) (es : List En) (a : Addr) (ys : List V) (st : List (Int × Int)), vs = [.ref s, .int z, .ref c, .ref a] ∧ WF z ns es ∧ EntsAt H s es ∧ CrewAt H c ns ∧ H a = some (.lst ys) ∧ StepsAt H ys st ∧ Fine z es ∧ SOk z ns es (-1) 0 st ∧ st ≠ [] ∧ ∀ H', Same H H' → Q (.bl true) H'
def sp_law_judged (_ : PySem.W.Frag) : Sp := fun vs H Q _ => ∃ (s : Addr) (z : Int) (c : Addr) (ns : List Str) (es : List En) (t : Addr) (th : Thing), vs = [.ref s, .int z, .ref c, .ref t] ∧ WF z ns es ∧ EntsAt H s es ∧ CrewAt H c ns ∧ ThingAt H t th ∧ Right z ns es th ∧ ∀ H', Same H H' → Q (.bl true) H'
/-! ### what was told -/
def thD : Thing → PyData
  | .two w i j => .tuple [.str w, .int (i : Int), .int (j : Int)]
  | .pushed st => .tuple [.str "pushed", .list (st.map p2D)]
/-- a thing that lies at t, its list new -/
def ThingN (H0 H : Hp) (t : Addr) : Thing → Prop
  | .two w i j => H t = some (.tup [.str w, .int (i : Int), .int (j : Int)])
  | .pushed st => ∃ a ys, H t = some (.tup [.str "pushed", .ref a]) ∧ H0 a = none ∧ H a = some (.lst ys) ∧ StepsAt H ys st
theorem ThingN.at {H0 H : Hp} {t : Addr} {th : Thing} (h : ThingN H0 H t th) : ThingAt H t th := by
  cases th with
  | two w i j => exact h
  | pushed st =>
    obtain ⟨a, ys, h1, _, h2, h3⟩ := h
    exact ⟨a, ys, h1, h2, h3⟩
theorem ThingN.same {H0 H H' : Hp} {t : Addr} {th : Thing} (h : ThingN H0 H t th) (e : Same H H') : ThingN H0 H' t th := by
  cases th with
  | two w i j => exact e _ _ h
  | pushed st =>
    obtain ⟨a, ys, h1, h0, h2, h3⟩ := h
    exact ⟨a, ys, e _ _ h1, h0, e _ _ h2, h3.same e⟩
/-- a change of another list -/
theorem ThingN.mut {H0 H : Hp} {t L : Addr} {th : Thing} {xs : List V} {o u : HO} (h : ThingN H0 H t th) (hL : H L = some (.lst xs)) (h0 : H0 L = some u) : ThingN H0 (upd H L o) t th := by
  cases th with
  | two w i j => exact upd_keep (show H t = _ from h) (ne_of (show H t = _ from h) hL (by simp))
  | pushed st =>
    obtain ⟨a, ys, h1, k0, h2, h3⟩ := h
    have n : a ≠ L := fun k => by
      rw [k] at k0
      rw [k0] at h0
      cases h0
    exact ⟨a, ys, upd_keep h1 (ne_of h1 hL (by simp)), k0, upd_keep h2 n, h3.mut hL⟩
theorem ThingN.dp {K : PySem.W.Frag} {H0 H : Hp} {t : Addr} {th : Thing} (h : ThingN H0 H t th) : Dp K H (.ref t) (thD th) := by
  cases th with
  | two w i j => exact .tup (SqT.of (show H t = _ from h)) (.cons (.str _) (.cons (.int _) (.cons (.int _) .nil)))
  | pushed st =>
    obtain ⟨a, ys, h1, _, h2, h3⟩ := h
    exact .tup (SqT.of h1) (.cons (.str _) (.cons (.lst (SqL.of h2) h3.dp) .nil))
/-- the answer of obstacle, as it lies -/
def Told2 (z : Int) (ns : List Str) (es : List En) (H0 H : Hp) (v : V) : Prop := (v = .non ∧ obsD z ns es = .none) ∨ ∃ t th, v = .ref t ∧ ThingN H0 H t th ∧ Right z ns es th ∧ thD th = obsD z ns es
theorem p2D_inj {p q : Int × Int} (h : p2D p = p2D q) : p = q := by
  obtain ⟨a, b⟩ := p
  obtain ⟨c, d⟩ := q
  unfold p2D at h
  simp only [PyData.tuple.injEq, List.cons.injEq, PyData.int.injEq, and_true] at h
  rw [h.1, h.2]
theorem map_p2D_inj : ∀ {xs ys : List (Int × Int)}, xs.map p2D = ys.map p2D → xs = ys
  | [], [], _ => rfl
  | [], _ :: _, h => by cases h
  | _ :: _, [], h => by cases h
  | x :: xs, y :: ys, h => by
    rw [List.map_cons, List.map_cons, List.cons.injEq] at h
    rw [p2D_inj h.1, map_p2D_inj h.2]
theorem own_told {z : Int} {ns : List Str} {es : List En} {H0 H : Hp} {v : V} (hz : 1 ≤ z) (pos : ∀ e ∈ es, 0 ≤ e.2) (o : NbM.Own H0 H v (obsD z ns es)) : Told2 z ns es H0 H v := by
  rcases o with h | ⟨t, h1, h2, ⟨w, i, j, h3, h4⟩ | ⟨a, ys, st, h3, h4, h5, h6, h7⟩⟩
  · exact .inl h
  · rcases obs_ok (ns := ns) hz pos with k | ⟨w', i', j', k1, k2⟩ | ⟨k1, _⟩
    · rw [k] at h3
      cases h3
    · rw [h3] at k1
      unfold duoD at k1
      simp only [PyData.tuple.injEq, List.cons.injEq, PyData.int.injEq, PyData.str.injEq, and_true] at k1
      obtain ⟨rfl, rfl, rfl⟩ := k1
      exact .inr ⟨t, .two w i' j', h1, h4, k2, h3.symm⟩
    · rw [k1] at h3
      simp at h3
  · rcases obs_ok (ns := ns) hz pos with k | ⟨w', i', j', k1, k2⟩ | ⟨k1, k2, k3, k4⟩
    · rw [k] at h3
      cases h3
    · rw [k1] at h3
      unfold duoD at h3
      simp at h3
    · rw [h3] at k1
      simp only [PyData.tuple.injEq, List.cons.injEq, PyData.list.injEq, and_true, true_and] at k1
      have := map_p2D_inj k1
      subst this
      exact .inr ⟨t, .pushed _, h1, ⟨a, ys, h5, h4, h6, h7⟩, ⟨k2, k3, k4⟩, h3.symm⟩
theorem Told2.same {z : Int} {ns : List Str} {es : List En} {H0 H H' : Hp} {v : V} (h : Told2 z ns es H0 H v) (e : Same H H') : Told2 z ns es H0 H' v := by
  rcases h with h | ⟨t, th, h1, h2, h3⟩
  · exact .inl h
  · exact .inr ⟨t, th, h1, h2.same e, h3⟩
theorem Told2.dp {K : PySem.W.Frag} {z : Int} {ns : List Str} {es : List En} {H0 H : Hp} {v : V} (h : Told2 z ns es H0 H v) : Dp K H v (obsD z ns es) := by
  rcases h with ⟨rfl, h⟩ | ⟨t, th, rfl, h2, _, h3⟩
  · rw [h]
    exact .non
  · rw [← h3]
    exact h2.dp
theorem Told2.mut {z : Int} {ns : List Str} {es : List En} {H0 H : Hp} {v : V} {L : Addr} {xs : List V} {o u : HO} (h : Told2 z ns es H0 H v) (hL : H L = some (.lst xs)) (h0 : H0 L = some u) : Told2 z ns es H0 (upd H L o) v := by
  rcases h with h | ⟨t, th, h1, h2, h3⟩
  · exact .inl h
  · exact .inr ⟨t, th, h1, h2.mut hL h0, h3⟩
theorem Told2.non {z : Int} {ns : List Str} {es : List En} {H0 H : Hp} {v : V} (h : Told2 z ns es H0 H v) : v = .non ↔ obsD z ns es = .none := by
  rcases h with ⟨rfl, h⟩ | ⟨t, th, rfl, _, _, h⟩
  · exact ⟨fun _ => h, fun _ => rfl⟩
  · refine ⟨fun k => (by cases k), fun k => ?_⟩
    rw [k] at h
    cases th with
    | two w i j => cases h
    | pushed st => cases h
theorem Told2.rep {z : Int} {ns : List Str} {es : List En} {H0 H : Hp} {v : V} (h : Told2 z ns es H0 H v) : v = .non ∨ ∃ a, v = .ref a := by
  rcases h with ⟨h, _⟩ | ⟨t, _, h, _⟩
  · exact .inl h
  · exact .inr ⟨t, h⟩
theorem dp_mkt {K : PySem.W.Frag} {H : Hp} {v : V} {w : Int × Option Int} (h : Dp K H v (mkD w)) : ∃ t, v = .ref t ∧ SqT K H t [.int w.1, oV w.2] := by
  obtain ⟨i, j⟩ := w
  cases j <;> cases h with
  | tup a b =>
    cases b with
    | cons b1 b2 =>
      cases b1
      cases b2 with
      | cons b1 b2 =>
        cases b1
        cases b2
        exact ⟨_, rfl, a⟩
theorem len_lwalk {z : Int} {ns : List Str} {es : List En} (few : es.length ≤ 200) : (lwalk z ns es).length ≤ 400 := by
  have h1 := len_seen z es
  have h2 := len_marksG (seen z es) 0
  unfold lwalk
  rw [List.length_zip]
  have : (marks z es).length ≤ 400 := by
    show (marksG 0 (seen z es)).length ≤ 400
    omega
  omega
/-! ### repr of any data -/
section
variable {X : Cx}
def rRepV (K : PySem.W.Frag) : List V → Hp → VK → Prop := fun xs H Q => ∃ (x : V) (d : PyData), xs = [x] ∧ (x = .non ∨ ∃ a, x = .ref a) ∧ Dp K H x d ∧ d.showable = true ∧ d.hasDict = false ∧ d.depth ≤ 60 ∧ d.shown.length ≤ sizeLine ∧ Q (.str d.shown) H
theorem call_repV (hg : X.A.guards = some []) (hu : X.A.units + 64 < cLine) : CallR X (.builtin "repr") (rRepV X.K) := by
  intro pins s σ H xs us Q I r h
  obtain ⟨x, d, rfl, hx, hd, hs, hn, hz, hl, q⟩ := h
  rcases hx with rfl | ⟨a, rfl⟩
  · obtain ⟨u, rfl, r1⟩ := vals1 r
    cases r1
    cases hd
    exact PySem.P.repr_of_none ⟨.str _, H, I.tok _, ⟨_, rfl⟩, q⟩
  · exact call_repD hg hu pins s σ H _ us Q I r ⟨a, d, rfl, hd, hs, hn, hz, hl, q⟩
end
/-! ### it is shown -/
theorem SOk.bnd {z : Int} {ns : List Str} {es : List En} : ∀ {st : List (Int × Int)} {low s : Int}, SOk z ns es low s st → -1 ≤ low → 0 ≤ s → ∀ p ∈ st, 0 ≤ p.1 ∧ (∃ e ∈ es, p.1 ≤ e.2 / z) ∧ 0 ≤ p.2 ∧ p.2 ≤ (es.length : Int) + 1
  | [], _, _, _, _, _, p, hp => by cases hp
  | x :: r, low, s, ⟨h1, h2, h3, h4, _, h6⟩, hl, hs, p, hp => by
    rcases List.mem_cons.mp hp with rfl | hp
    · exact ⟨by omega, h2, by omega, h4⟩
    · exact SOk.bnd h6 (by omega) (by omega) p hp
theorem shw_obs {z : Int} {ns : List Str} {es : List En} (hw : WF z ns es) (hl : ∀ e ∈ es, e.2 < 10 ^ 60) : (obsD z ns es).showable = true ∧ (obsD z ns es).hasDict = false ∧ (obsD z ns es).depth ≤ 60 ∧ (obsD z ns es).shown.length ≤ sizeLine := by
  have few := hw.en.few
  have fin : ∀ {W D : Nat} {d : PyData}, Shw W D d → W ≤ 200000 → D ≤ 60 → d.showable = true ∧ d.hasDict = false ∧ d.depth ≤ 60 ∧ d.shown.length ≤ sizeLine := fun s h1 h2 => ⟨s.sh, s.nd, Nat.le_trans s.dp h2, s.fits h1⟩
  rcases obs_ok (ns := ns) hw.sz.1 (wf_pos hw) with k | ⟨w, i, j, k1, k2, e, f, k3, k4, k5⟩ | ⟨k1, k2, k3, k4⟩
  · rw [k]
    exact fin shw_non (by decide) (by decide)
  · rw [k1]
    have jl := (List.getElem?_eq_some_iff.mp k4).1
    have hn : nameOk w = true := by
      rcases k5 with ⟨rfl, _⟩ | ⟨rfl, _⟩ | ⟨rfl, _⟩ <;> decide +kernel
    refine fin (shw_tup (W := 201) (D := 0) (n := 3) (fun d hd => ?_) (Nat.le_refl _)) (by decide) (by decide)
    rcases List.mem_cons.mp hd with rfl | hd
    · exact (shw_name hn).mono (by decide) (by decide)
    · rcases List.mem_cons.mp hd with rfl | hd
      · exact shw_int (by omega) (by omega)
      · cases List.mem_singleton.mp hd
        exact shw_int (by omega) (by omega)
  · rw [k1]
    have sl := k3.len
    have hb := k3.bnd (by omega) (by omega)
    have h1 : Shw 81405 2 (.list ((push z ns es).map p2D)) := shw_list (W := 404) (D := 1) (n := 201) (fun d hd => by
      obtain ⟨p, hp, rfl⟩ := List.mem_map.mp hd
      obtain ⟨b1, ⟨e, he, b2⟩, b3, b4⟩ := hb p hp
      have h5 := hl e he
      have h6 : e.2 / z ≤ e.2 := Int.ediv_le_self _ (wf_pos hw e he)
      refine shw_tup (W := 201) (D := 0) (n := 2) (fun d hd => ?_) (Nat.le_refl _)
      rcases List.mem_cons.mp hd with rfl | hd
      · exact shw_int (by omega) (by omega)
      · cases List.mem_singleton.mp hd
        exact shw_int (by omega) (by omega)) (by rw [List.length_map]; omega)
    refine fin (shw_tup (W := 81405) (D := 2) (n := 2) (fun d hd => ?_) (Nat.le_refl _)) (by decide) (by decide)
    rcases List.mem_cons.mp hd with rfl | hd
    · exact (shw_name (by decide +kernel)).mono (by decide) (by decide)
    · cases List.mem_singleton.mp hd
      exact h1

end NbH

set_option Elab.async false
set_option linter.all false
set_option maxRecDepth 100000
set_option maxHeartbeats 4000000
/-! The walks block by block: e and l of each block, as the document has them. -/
namespace NbI
open PySem PySem.Spec PyProof.Rows L2 Nb NbE NbS NbF NbP NbK NbL NbX NbW NbZ NbM NbQ NbC NbG NbH
/-- a slot in some window for a block -/
def InW (z : Int) (ns : List Str) (es : List En) (q k : Int) : Prop := ∃ p ∈ wins z es ns q, p.1 ≤ k ∧ k ≤ p.2
section
variable {z : Int} {ns : List Str} {es : List En} {q s k : Int}
theorem InW.le (h : InW z ns es q k) : k ≤ (es.length : Int) := by
  obtain ⟨p, hp, _, h2⟩ := h
  have := wins_le p hp
  omega
theorem sFrom_min (hs : s ≤ k) (h : InW z ns es q k) : sFrom z ns es q s ≤ k := by
  obtain ⟨p, hp, h1, h2⟩ := h
  have hc : max p.1 s ∈ cand s (wins z es ns q) := List.mem_map.mpr ⟨p, List.mem_filter.mpr ⟨hp, decide_eq_true (by omega)⟩, rfl⟩
  have := (slotF_cand s (wins z es ns q) ((es.length : Int) + 1)).2.1 _ hc
  unfold sFrom
  omega
theorem sFrom_in (h : sFrom z ns es q s ≤ (es.length : Int)) : s ≤ sFrom z ns es q s ∧ InW z ns es q (sFrom z ns es q s) := by
  rcases (slotF_cand s (wins z es ns q) ((es.length : Int) + 1)).2.2 with h1 | h1
  · unfold sFrom at h
    omega
  · obtain ⟨p, hp, h2⟩ := List.mem_map.mp h1
    obtain ⟨h3, h4⟩ := List.mem_filter.mp hp
    have h5 := of_decide_eq_true h4
    unfold sFrom at h ⊢
    rw [← h2]
    exact ⟨by omega, p, h3, by omega, by omega⟩
theorem sFrom_idem (h : sFrom z ns es q s ≤ (es.length : Int)) : sFrom z ns es q (sFrom z ns es q s) = sFrom z ns es q s := by
  obtain ⟨h1, h2⟩ := sFrom_in h
  have h3 := sFrom_min (Int.le_refl _) h2
  obtain ⟨h4, _⟩ := sFrom_in (z := z) (ns := ns) (es := es) (q := q) (s := sFrom z ns es q s) (by omega)
  omega
/-- the slots up to s, the greatest of each window -/
def candU (s : Int) (ws : List (Int × Int)) : List Int := (ws.filter fun p => decide (p.1 ≤ min p.2 s)).map fun p => min p.2 s
theorem slotU_cand (s : Int) : ∀ (ws : List (Int × Int)) (f : Int), f ≤ slotU s ws f ∧ (∀ c ∈ candU s ws, c ≤ slotU s ws f) ∧ (slotU s ws f = f ∨ slotU s ws f ∈ candU s ws)
  | [], f => ⟨Int.le_refl _, fun c hc => by simp [candU] at hc, .inl rfl⟩
  | p :: r, f => by
    rw [slotU_cons]
    by_cases h : p.1 ≤ min p.2 s
    · have hc : candU s (p :: r) = min p.2 s :: candU s r := by
        unfold candU
        rw [List.filter_cons_of_pos (by simpa using h), List.map_cons]
      rw [if_pos h, hc]
      obtain ⟨h1, h2, h3⟩ := slotU_cand s r (max f (min p.2 s))
      refine ⟨by omega, fun c hm => ?_, ?_⟩
      · rcases List.mem_cons.mp hm with rfl | hm
        · omega
        · exact h2 c hm
      · rcases h3 with h3 | h3
        · by_cases h4 : min p.2 s ≤ f
          · exact .inl (by omega)
          · exact .inr (List.mem_cons.mpr (.inl (by omega)))
        · exact .inr (List.mem_cons_of_mem _ h3)
    · have hc : candU s (p :: r) = candU s r := by
        unfold candU
        rw [List.filter_cons_of_neg (by simpa using h)]
      rw [if_neg h, hc]
      exact slotU_cand s r f
theorem sUpTo_max (hs : k ≤ s) (h : InW z ns es q k) : k ≤ sUpTo z ns es q s := by
  obtain ⟨p, hp, h1, h2⟩ := h
  have hc : min p.2 s ∈ candU s (wins z es ns q) := List.mem_map.mpr ⟨p, List.mem_filter.mpr ⟨hp, decide_eq_true (by omega)⟩, rfl⟩
  have := (slotU_cand s (wins z es ns q) (-1)).2.1 _ hc
  unfold sUpTo
  omega
theorem sUpTo_in (h : 0 ≤ sUpTo z ns es q s) : sUpTo z ns es q s ≤ s ∧ InW z ns es q (sUpTo z ns es q s) := by
  rcases (slotU_cand s (wins z es ns q) (-1)).2.2 with h1 | h1
  · unfold sUpTo at h
    omega
  · obtain ⟨p, hp, h2⟩ := List.mem_map.mp h1
    obtain ⟨h3, h4⟩ := List.mem_filter.mp hp
    have h5 := of_decide_eq_true h4
    unfold sUpTo at h ⊢
    rw [← h2]
    exact ⟨by omega, p, h3, by omega, by omega⟩
theorem sUpTo_idem (h : 0 ≤ sUpTo z ns es q s) : sUpTo z ns es q (sUpTo z ns es q s) = sUpTo z ns es q s := by
  obtain ⟨h1, h2⟩ := sUpTo_in h
  have h3 := sUpTo_max (Int.le_refl _) h2
  obtain ⟨h4, _⟩ := sUpTo_in (z := z) (ns := ns) (es := es) (q := q) (s := sUpTo z ns es q s) (by omega)
  omega
theorem sUpTo_le (hs : -1 ≤ s) : sUpTo z ns es q s ≤ s := by
  by_cases h : 0 ≤ sUpTo z ns es q s
  · exact (sUpTo_in h).1
  · omega
end
/-! ### e of each block -/
def eB (z : Int) (ns : List Str) (es : List En) : Nat → Int
  | 0 => sFrom z ns es 0 0
  | q + 1 => sFrom z ns es ((q + 1 : Nat) : Int) (eB z ns es q)
def eI (z : Int) (ns : List Str) (es : List En) (q : Int) : Int := eB z ns es q.toNat
/-- the slot from which a block's is sought -/
def pI (z : Int) (ns : List Str) (es : List En) (f : Int) : Int := if f ≤ 0 then 0 else eI z ns es (f - 1)
section
variable {z : Int} {ns : List Str} {es : List En} {q s k f b : Int}
theorem eI_eq (h : 0 ≤ q) : eI z ns es q = sFrom z ns es q (pI z ns es q) := by
  obtain ⟨n, rfl⟩ : ∃ n : Nat, q = (n : Int) := ⟨q.toNat, by omega⟩
  cases n with
  | zero => rfl
  | succ n =>
    unfold pI
    rw [if_neg (by omega)]
    unfold eI
    rw [show (((n + 1 : Nat) : Int) - 1).toNat = n by omega, show (((n + 1 : Nat) : Int)).toNat = n + 1 by omega]
    rfl
theorem pI_succ (h : 0 ≤ q) : pI z ns es (q + 1) = eI z ns es q := by
  unfold pI
  rw [if_neg (by omega), show q + 1 - 1 = q by omega]
theorem eB_le : ∀ q : Nat, eB z ns es q ≤ (es.length : Int) + 1
  | 0 => sFrom_le
  | _ + 1 => sFrom_le
theorem eI_le : eI z ns es q ≤ (es.length : Int) + 1 := eB_le _
theorem eB_pos : ∀ q : Nat, 0 ≤ eB z ns es q
  | 0 => sFrom_ge (by omega)
  | q + 1 => Int.le_trans (eB_pos q) (sFrom_ge (eB_le q))
theorem eI_pos : 0 ≤ eI z ns es q := eB_pos _
theorem pI_bd : 0 ≤ pI z ns es f ∧ pI z ns es f ≤ (es.length : Int) + 1 := by
  unfold pI
  split
  · omega
  · exact ⟨eI_pos, eI_le⟩
theorem eI_up (h : 0 ≤ q) : eI z ns es q ≤ eI z ns es (q + 1) := by
  rw [eI_eq (q := q + 1) (by omega), pI_succ h]
  exact sFrom_ge eI_le
theorem eI_mono (h0 : 0 ≤ q) : ∀ k : Nat, eI z ns es q ≤ eI z ns es (q + k)
  | 0 => by rw [show q + ((0 : Nat) : Int) = q by omega]; exact Int.le_refl _
  | k + 1 => by
    have h1 := eI_mono h0 k
    have h2 := eI_up (z := z) (ns := ns) (es := es) (q := q + k) (by omega)
    rw [show q + ((k + 1 : Nat) : Int) = q + k + 1 by omega]
    omega
theorem eI_mono' (h0 : 0 ≤ q) (h : q ≤ f) : eI z ns es q ≤ eI z ns es f := by
  have := eI_mono (z := z) (ns := ns) (es := es) h0 (f - q).toNat
  rwa [show q + ((f - q).toNat : Int) = f by omega] at this
theorem sFrom_wins {q f : Int} (h : wins z es ns q = wins z es ns f) : sFrom z ns es q s = sFrom z ns es f s := by
  unfold sFrom
  rw [h]
theorem sUpTo_wins {q f : Int} (h : wins z es ns q = wins z es ns f) : sUpTo z ns es q s = sUpTo z ns es f s := by
  unfold sUpTo
  rw [h]
/-- all blocks of a gap have one e -/
theorem gap_e (h : ∀ e ∈ es, e.2 / z < f ∨ b ≤ e.2 / z) (h0 : 0 ≤ f) (hm : eI z ns es f ≤ (es.length : Int)) : ∀ k : Nat, f + k < b → eI z ns es (f + k) = eI z ns es f
  | 0, _ => by rw [show f + ((0 : Nat) : Int) = f by omega]
  | k + 1, hk => by
    have ih := gap_e h h0 hm k (by omega)
    rw [show f + ((k + 1 : Nat) : Int) = f + k + 1 by omega, eI_eq (by omega), pI_succ (by omega), ih, sFrom_wins (wins_gap h (by omega) (by omega) : _ = wins z es ns f)]
    rw [eI_eq h0] at hm ⊢
    exact sFrom_idem hm
theorem gap_e' (h : ∀ e ∈ es, e.2 / z < f ∨ b ≤ e.2 / z) (h0 : 0 ≤ f) (hm : eI z ns es f ≤ (es.length : Int)) (h1 : f ≤ q) (h2 : q < b) : eI z ns es q = eI z ns es f := by
  have := gap_e h h0 hm (q - f).toNat (by omega)
  rwa [show f + ((q - f).toNat : Int) = q by omega] at this
/-- the walk over spans, where it goes through -/
theorem walk_e {xs : List Int} : ∀ {f : Int}, 0 ≤ f → xs.Pairwise (· < ·) → (∀ b ∈ xs, f ≤ b) → (∀ e ∈ es, e.2 / z < f ∨ e.2 / z ∈ xs) → (∀ b ∈ xs, eI z ns es b ≤ (es.length : Int)) → walkE (sFrom z ns es) (es.length : Int) (pI z ns es f) (startsG f xs) = (startsG f xs).map (eI z ns es) := by
  induction xs with
  | nil => intros; rfl
  | cons b r ih =>
    intro f h0 hp hb he hm
    obtain ⟨p1, p2⟩ := List.pairwise_cons.mp hp
    have hfb := hb b List.mem_cons_self
    have hbm := hm b List.mem_cons_self
    have rest := ih (f := b + 1) (by omega) p2 (fun x hx => p1 x hx) (fun e hm => by
      rcases he e hm with h | h
      · exact .inl (by omega)
      · rcases List.mem_cons.mp h with h | h
        · exact .inl (by omega)
        · exact .inr h) (fun x hx => hm x (List.mem_cons_of_mem _ hx))
    rw [pI_succ (by omega)] at rest
    rw [startsG_cons]
    by_cases h : f < b
    · have hf : eI z ns es f ≤ (es.length : Int) := Int.le_trans (eI_mono' h0 (by omega)) hbm
      have gp : pI z ns es b = eI z ns es f := by
        unfold pI
        rw [if_neg (by omega)]
        exact gap_e' (b := b) (fun e hm => by
          rcases he e hm with k | k
          · exact .inl k
          · rcases List.mem_cons.mp k with k | k
            · exact .inr (by omega)
            · have := p1 _ k
              exact .inr (by omega)) h0 hf (by omega) (by omega)
      rw [if_pos h]
      show walkE (sFrom z ns es) (es.length : Int) (pI z ns es f) (f :: b :: startsG (b + 1) r) = _
      rw [walkE_cons, ← eI_eq h0, if_neg (by omega), walkE_cons, ← gp, ← eI_eq (by omega), if_neg (by omega), rest, gp]
      rfl
    · have : f = b := by omega
      subst this
      rw [if_neg h]
      show walkE (sFrom z ns es) (es.length : Int) (pI z ns es f) (f :: startsG (f + 1) r) = _
      rw [walkE_cons, ← eI_eq h0, if_neg (by omega), rest]
      rfl
/-- .. where it does not -/
theorem walk_x {xs : List Int} : ∀ {f : Int}, 0 ≤ f → xs.Pairwise (· < ·) → (∀ b ∈ xs, f ≤ b) → (∀ e ∈ es, e.2 / z < f ∨ e.2 / z ∈ xs) → (∃ b ∈ xs, (es.length : Int) < eI z ns es b) → ∃ x ∈ walkE (sFrom z ns es) (es.length : Int) (pI z ns es f) (startsG f xs), (es.length : Int) < x := by
  induction xs with
  | nil =>
    rintro f _ _ _ _ ⟨b, hb, _⟩
    cases hb
  | cons b r ih =>
    rintro f h0 hp hb he ⟨b', hb', hx⟩
    obtain ⟨p1, p2⟩ := List.pairwise_cons.mp hp
    have hfb := hb b List.mem_cons_self
    have step : ∃ x ∈ walkE (sFrom z ns es) (es.length : Int) (pI z ns es b) (b :: startsG (b + 1) r), (es.length : Int) < x := by
      rw [walkE_cons, ← eI_eq (by omega)]
      by_cases hbm : (es.length : Int) < eI z ns es b
      · rw [if_pos hbm]
        exact ⟨_, List.mem_singleton.mpr rfl, hbm⟩
      · rw [if_neg hbm]
        have hb2 : b' ∈ r := by
          rcases List.mem_cons.mp hb' with rfl | h
          · exact absurd hx hbm
          · exact h
        obtain ⟨x, h1, h2⟩ := ih (f := b + 1) (by omega) p2 (fun x hx => p1 x hx) (fun e hm => by
          rcases he e hm with h | h
          · exact .inl (by omega)
          · rcases List.mem_cons.mp h with h | h
            · exact .inl (by omega)
            · exact .inr h) ⟨b', hb2, hx⟩
        rw [pI_succ (by omega)] at h1
        exact ⟨x, List.mem_cons_of_mem _ h1, h2⟩
    rw [startsG_cons]
    by_cases h : f < b
    · rw [if_pos h]
      show ∃ x ∈ walkE (sFrom z ns es) (es.length : Int) (pI z ns es f) (f :: b :: startsG (b + 1) r), (es.length : Int) < x
      rw [walkE_cons, ← eI_eq h0]
      by_cases hf : (es.length : Int) < eI z ns es f
      · rw [if_pos hf]
        exact ⟨_, List.mem_singleton.mpr rfl, hf⟩
      · rw [if_neg hf]
        have gp : pI z ns es b = eI z ns es f := by
          unfold pI
          rw [if_neg (by omega)]
          exact gap_e' (b := b) (fun e hm => by
            rcases he e hm with k | k
            · exact .inl k
            · rcases List.mem_cons.mp k with k | k
              · exact .inr (by omega)
              · have := p1 _ k
                exact .inr (by omega)) h0 (by omega) (by omega) (by omega)
        rw [gp] at step
        obtain ⟨x, h1, h2⟩ := step
        exact ⟨x, List.mem_cons_of_mem _ h1, h2⟩
    · have : f = b := by omega
      subst this
      rw [if_neg h]
      exact step
theorem top_mem (hz : 1 ≤ z) (pos : ∀ e ∈ es, 0 ≤ e.2) : (es = [] ∧ topB z es = -1) ∨ (0 ≤ topB z es ∧ ∃ e ∈ es, e.2 / z = topB z es) := by
  cases es with
  | nil => exact .inl ⟨rfl, rfl⟩
  | cons e r =>
    right
    obtain ⟨h1, h2, h3⟩ := foldl_max (e.2 / z) (r.map fun e => e.2 / z)
    have h0 : 0 ≤ e.2 / z := Int.ediv_nonneg (pos e List.mem_cons_self) (by omega)
    have ht : topB z (e :: r) = (r.map fun e => e.2 / z).foldl max (e.2 / z) := rfl
    rw [ht]
    refine ⟨by omega, ?_⟩
    rcases h1 with h1 | h1
    · exact ⟨e, List.mem_cons_self, h1.symm⟩
    · obtain ⟨e', he, h⟩ := List.mem_map.mp h1
      exact ⟨e', List.mem_cons_of_mem _ he, h⟩
/-- R1: possible, exactly where nothing bars and the walk from below goes through -/
theorem poss_iff (hz : 1 ≤ z) (pos : ∀ e ∈ es, 0 ≤ e.2) : obsD z ns es = .none ↔ Fine z es ∧ ∀ q, 0 ≤ q → q ≤ topB z es → eI z ns es q ≤ (es.length : Int) := by
  have h1 := push_end (sFrom z ns es) (m := (es.length : Int)) (by omega) (starts z es) 0 (by omega)
  rw [obs_iff hz pos, ← pushed_iff hz pos]
  have e0 : (0 : Int) = pI z ns es 0 := rfl
  have hs := seen_pos hz pos
  have he : ∀ e ∈ es, e.2 / z < 0 ∨ e.2 / z ∈ seen z es := fun e he => .inr ((mem_seen z _ es).mpr ⟨e, he, rfl⟩)
  have h2 : (es.length : Int) < lastS (push z ns es) ↔ ∃ x ∈ walkE (sFrom z ns es) (es.length : Int) 0 (starts z es), (es.length : Int) < x := h1.symm
  rw [h2]
  refine and_congr_right fun F => ?_
  constructor
  · intro h q q0 q1
    rcases top_mem hz pos with ⟨_, ht⟩ | ⟨_, e, hem, ht⟩
    · omega
    · refine Int.le_trans (eI_mono' q0 q1) ?_
      rw [← ht]
      by_cases g : eI z ns es (e.2 / z) ≤ (es.length : Int)
      · exact g
      · refine absurd ?_ h
        have := walk_x (ns := ns) (f := 0) (Int.le_refl 0) (lt_seen z es) hs he ⟨e.2 / z, (mem_seen z _ es).mpr ⟨e, hem, rfl⟩, by omega⟩
        exact this
  · rintro h ⟨x, hx, h3⟩
    have hb : ∀ b ∈ seen z es, eI z ns es b ≤ (es.length : Int) := fun b hb => by
      obtain ⟨e, hem, rfl⟩ := (mem_seen z b es).mp hb
      exact h _ (hs _ hb) (topB_le hem)
    have hw := walk_e (f := 0) (Int.le_refl 0) (lt_seen z es) hs he hb
    have hw' : walkE (sFrom z ns es) (es.length : Int) 0 (starts z es) = (starts z es).map (eI z ns es) := hw
    rw [hw'] at hx
    obtain ⟨q, hq, rfl⟩ := List.mem_map.mp hx
    obtain ⟨k1, b, k2, k3⟩ := (NbH.startsG_ok (seen z es) 0 (lt_seen z es) hs).2 q hq
    have := eI_mono' (z := z) (ns := ns) (es := es) k1 k3
    have := hb b k2
    omega
/-- the slots of the walk from below, of a possible log -/
theorem earl_eq (hz : 1 ≤ z) (pos : ∀ e ∈ es, 0 ≤ e.2) (h : obsD z ns es = .none) : earl z ns es = (starts z es).map (eI z ns es) := by
  obtain ⟨_, h⟩ := (poss_iff hz pos).mp h
  refine walk_e (f := 0) (Int.le_refl 0) (lt_seen z es) (seen_pos hz pos) (fun e he => .inr ((mem_seen z _ es).mpr ⟨e, he, rfl⟩)) fun b hb => ?_
  obtain ⟨e, hem, rfl⟩ := (mem_seen z b es).mp hb
  exact h _ (seen_pos hz pos _ hb) (topB_le hem)
end
/-! ### l of each block -/
def lD (z : Int) (ns : List Str) (es : List En) (t : Int) : Nat → Int
  | 0 => sUpTo z ns es t (es.length : Int)
  | k + 1 => sUpTo z ns es (t - ((k + 1 : Nat) : Int)) (lD z ns es t k)
def lI (z : Int) (ns : List Str) (es : List En) (q : Int) : Int := lD z ns es (topB z es) (topB z es - q).toNat
section
variable {z : Int} {ns : List Str} {es : List En} {q s k f b : Int}
theorem lI_top : lI z ns es (topB z es) = sUpTo z ns es (topB z es) (es.length : Int) := by
  unfold lI
  rw [Int.sub_self]
  rfl
theorem lI_eq (h : q < topB z es) : lI z ns es q = sUpTo z ns es q (lI z ns es (q + 1)) := by
  obtain ⟨n, hn⟩ : ∃ n : Nat, topB z es - q = ((n + 1 : Nat) : Int) := ⟨(topB z es - q - 1).toNat, by omega⟩
  unfold lI
  rw [show (topB z es - q).toNat = n + 1 by omega, show (topB z es - (q + 1)).toNat = n by omega]
  show sUpTo z ns es (topB z es - ((n + 1 : Nat) : Int)) _ = _
  rw [← hn, show topB z es - (topB z es - q) = q by omega]
/-- e lies below l -/
theorem e_le_l (P : ∀ q, 0 ≤ q → q ≤ topB z es → eI z ns es q ≤ (es.length : Int)) : ∀ k : Nat, 0 ≤ topB z es - k → eI z ns es (topB z es - k) ≤ lI z ns es (topB z es - k)
  | 0, h => by
    rw [show topB z es - ((0 : Nat) : Int) = topB z es by omega, lI_top]
    have h1 := P (topB z es) (by omega) (Int.le_refl _)
    rw [eI_eq (by omega)] at h1 ⊢
    exact sUpTo_max h1 (sFrom_in h1).2
  | k + 1, h => by
    have ih := e_le_l P k (by omega)
    have h1 := P (topB z es - ((k + 1 : Nat) : Int)) h (by omega)
    have h2 := eI_up (z := z) (ns := ns) (es := es) (q := topB z es - ((k + 1 : Nat) : Int)) h
    rw [show topB z es - ((k + 1 : Nat) : Int) + 1 = topB z es - k by omega] at h2
    rw [lI_eq (by omega), show topB z es - ((k + 1 : Nat) : Int) + 1 = topB z es - k by omega]
    refine sUpTo_max (by omega) ?_
    rw [eI_eq h] at h1 ⊢
    exact (sFrom_in h1).2
theorem e_le_l' (P : ∀ q, 0 ≤ q → q ≤ topB z es → eI z ns es q ≤ (es.length : Int)) (h0 : 0 ≤ q) (h : q ≤ topB z es) : eI z ns es q ≤ lI z ns es q := by
  have := e_le_l P (topB z es - q).toNat (by omega)
  rwa [show topB z es - ((topB z es - q).toNat : Int) = q by omega] at this
theorem lI_le (P : ∀ q, 0 ≤ q → q ≤ topB z es → eI z ns es q ≤ (es.length : Int)) (h0 : 0 ≤ q) (h : q ≤ topB z es) : lI z ns es q ≤ (es.length : Int) := by
  have h1 := e_le_l' P h0 h
  have h2 := eI_pos (z := z) (ns := ns) (es := es) (q := q)
  by_cases g : q = topB z es
  · subst g
    rw [lI_top] at h1 ⊢
    exact sUpTo_le (by omega)
  · rw [lI_eq (by omega)] at h1 ⊢
    exact (sUpTo_in (by omega)).2.le
theorem lI_up (P : ∀ q, 0 ≤ q → q ≤ topB z es → eI z ns es q ≤ (es.length : Int)) (h0 : 0 ≤ q) (h : q < topB z es) : lI z ns es q ≤ lI z ns es (q + 1) := by
  have h1 := e_le_l' P h0 (by omega)
  have h2 := eI_pos (z := z) (ns := ns) (es := es) (q := q)
  rw [lI_eq h] at h1 ⊢
  exact (sUpTo_in (by omega)).1
theorem lI_in (P : ∀ q, 0 ≤ q → q ≤ topB z es → eI z ns es q ≤ (es.length : Int)) (h0 : 0 ≤ q) (h : q ≤ topB z es) : InW z ns es q (lI z ns es q) := by
  have h1 := e_le_l' P h0 h
  have h2 := eI_pos (z := z) (ns := ns) (es := es) (q := q)
  by_cases g : q = topB z es
  · subst g
    rw [lI_top] at h1 ⊢
    exact (sUpTo_in (by omega)).2
  · rw [lI_eq (by omega)] at h1 ⊢
    exact (sUpTo_in (by omega)).2
theorem eI_in (P : ∀ q, 0 ≤ q → q ≤ topB z es → eI z ns es q ≤ (es.length : Int)) (h0 : 0 ≤ q) (h : q ≤ topB z es) : InW z ns es q (eI z ns es q) := by
  have h1 := P q h0 h
  rw [eI_eq h0] at h1 ⊢
  exact (sFrom_in h1).2
/-- slots that do not fall, each in some window: e is below them -/
theorem e_least {g : Int → Int} (g0 : 0 ≤ g 0) (up : ∀ q, 0 ≤ q → q < f → g q ≤ g (q + 1)) (w : ∀ q, 0 ≤ q → q ≤ f → InW z ns es q (g q)) : ∀ n : Nat, (n : Int) ≤ f → eI z ns es n ≤ g n
  | 0, h => by
    rw [eI_eq (by omega)]
    exact sFrom_min g0 (w 0 (by omega) h)
  | n + 1, h => by
    have ih := e_least g0 up w n (by omega)
    have h1 := up n (by omega) (by omega)
    rw [show ((n + 1 : Nat) : Int) = (n : Int) + 1 by omega, eI_eq (by omega), pI_succ (by omega)]
    exact sFrom_min (by omega) (w _ (by omega) (by omega))
/-- .. l is above them -/
theorem l_most {g : Int → Int} (up : ∀ q, 0 ≤ q → q < topB z es → g q ≤ g (q + 1)) (w : ∀ q, 0 ≤ q → q ≤ topB z es → InW z ns es q (g q)) : ∀ k : Nat, 0 ≤ topB z es - k → g (topB z es - k) ≤ lI z ns es (topB z es - k)
  | 0, h => by
    rw [show topB z es - ((0 : Nat) : Int) = topB z es by omega, lI_top]
    have h1 := w (topB z es) (by omega) (Int.le_refl _)
    exact sUpTo_max h1.le h1
  | k + 1, h => by
    have ih := l_most up w k (by omega)
    have h1 := up (topB z es - ((k + 1 : Nat) : Int)) h (by omega)
    rw [show topB z es - ((k + 1 : Nat) : Int) + 1 = topB z es - k by omega] at h1
    rw [lI_eq (by omega), show topB z es - ((k + 1 : Nat) : Int) + 1 = topB z es - k by omega]
    exact sUpTo_max (by omega) (w _ h (by omega))
theorem l_most' {g : Int → Int} (up : ∀ q, 0 ≤ q → q < topB z es → g q ≤ g (q + 1)) (w : ∀ q, 0 ≤ q → q ≤ topB z es → InW z ns es q (g q)) (h0 : 0 ≤ q) (h : q ≤ topB z es) : g q ≤ lI z ns es q := by
  have := l_most up w (topB z es - q).toNat (by omega)
  rwa [show topB z es - ((topB z es - q).toNat : Int) = q by omega] at this
theorem e_least' {g : Int → Int} (g0 : 0 ≤ g 0) (up : ∀ q, 0 ≤ q → q < f → g q ≤ g (q + 1)) (w : ∀ q, 0 ≤ q → q ≤ f → InW z ns es q (g q)) (h0 : 0 ≤ q) (h : q ≤ f) : eI z ns es q ≤ g q := by
  have := e_least g0 up w q.toNat (by omega)
  rwa [show (q.toNat : Int) = q by omega] at this
/-- the walk from above, as a list from below -/
def upL (g : Int → Int → Int) (s : Int) (qs : List Int) : List Int := (walkL g s qs.reverse).reverse
theorem walkL_app (g : Int → Int → Int) : ∀ (xs : List Int) (s q : Int), walkL g s (xs ++ [q]) = walkL g s xs ++ [g q ((walkL g s xs).getLastD s)]
  | [], s, q => rfl
  | x :: xs, s, q => by
    show g x s :: walkL g (g x s) (xs ++ [q]) = (g x s :: walkL g (g x s) xs) ++ [_]
    rw [walkL_app g xs (g x s) q]
    show _ = g x s :: (walkL g (g x s) xs ++ [_])
    congr 3
    show _ = g q ((g x s :: walkL g (g x s) xs).getLastD s)
    congr 1
    rw [List.getLastD_cons]
theorem upL_cons (g : Int → Int → Int) (s q : Int) (r : List Int) : upL g s (q :: r) = g q ((upL g s r).headD s) :: upL g s r := by
  unfold upL
  rw [List.reverse_cons, walkL_app, List.reverse_append]
  show _ :: _ = _
  congr 2
  generalize walkL g s r.reverse = w
  cases h : w.getLast? with
  | none =>
    rw [List.getLast?_eq_none_iff.mp h]
    rfl
  | some x =>
    obtain ⟨init, rfl⟩ := List.getLast?_eq_some_iff.mp h
    simp
theorem late_upL : late z ns es = upL (sUpTo z ns es) (es.length : Int) (starts z es) := rfl
theorem startsG_head {f b : Int} {r : List Int} (h : f ≤ b) : ∃ r', startsG f (b :: r) = f :: r' := by
  rw [startsG_cons]
  by_cases g : f < b
  · rw [if_pos g]
    exact ⟨_, rfl⟩
  · have : f = b := by omega
    rw [if_neg g, this]
    exact ⟨_, rfl⟩
/-- all blocks of a gap have one l -/
theorem gap_l (P : ∀ q, 0 ≤ q → q ≤ topB z es → eI z ns es q ≤ (es.length : Int)) (h : ∀ e ∈ es, e.2 / z < f ∨ b ≤ e.2 / z) (h0 : 0 ≤ f) (hf : f < b) (hb : b ≤ topB z es) : ∀ k : Nat, f ≤ b - 1 - k → lI z ns es (b - 1 - k) = sUpTo z ns es f (lI z ns es b)
  | 0, _ => by
    rw [show b - 1 - ((0 : Nat) : Int) = b - 1 by omega, lI_eq (by omega), show b - 1 + 1 = b by omega, sUpTo_wins (wins_gap h (by omega) (by omega) : _ = wins z es ns f)]
  | k + 1, hk => by
    have ih := gap_l P h h0 hf hb k (by omega)
    have hp := e_le_l' P (q := b - 1 - k) (by omega) (by omega)
    have hq := eI_pos (z := z) (ns := ns) (es := es) (q := b - 1 - k)
    rw [lI_eq (by omega), show b - 1 - ((k + 1 : Nat) : Int) + 1 = b - 1 - k by omega, sUpTo_wins (wins_gap h (by omega) (by omega) : _ = wins z es ns f), ih]
    exact sUpTo_idem (by omega)
theorem gap_l' (P : ∀ q, 0 ≤ q → q ≤ topB z es → eI z ns es q ≤ (es.length : Int)) (h : ∀ e ∈ es, e.2 / z < f ∨ b ≤ e.2 / z) (h0 : 0 ≤ f) (hb : b ≤ topB z es) (h1 : f ≤ q) (h2 : q < b) : lI z ns es q = sUpTo z ns es f (lI z ns es b) := by
  have := gap_l P h h0 (by omega) hb (b - 1 - q).toNat (by omega)
  rwa [show b - 1 - ((b - 1 - q).toNat : Int) = q by omega] at this
theorem walk_l (P : ∀ q, 0 ≤ q → q ≤ topB z es → eI z ns es q ≤ (es.length : Int)) {xs : List Int} : ∀ {f : Int}, 0 ≤ f → xs.Pairwise (· < ·) → (∀ b ∈ xs, f ≤ b) → (∀ e ∈ es, e.2 / z < f ∨ e.2 / z ∈ xs) → xs ≠ [] → (∀ b ∈ xs, b ≤ topB z es) → topB z es ∈ xs → upL (sUpTo z ns es) (es.length : Int) (startsG f xs) = (startsG f xs).map (lI z ns es) := by
  induction xs with
  | nil => intro f _ _ _ _ h; exact absurd rfl h
  | cons b r ih =>
    intro f h0 hp hb he _ ht hm
    obtain ⟨p1, p2⟩ := List.pairwise_cons.mp hp
    have hfb := hb b List.mem_cons_self
    have hbt := ht b List.mem_cons_self
    have step : upL (sUpTo z ns es) (es.length : Int) (b :: startsG (b + 1) r) = (b :: startsG (b + 1) r).map (lI z ns es) := by
      rw [upL_cons, List.map_cons]
      cases r with
      | nil =>
        have : topB z es = b := by simpa using hm
        show [sUpTo z ns es b (es.length : Int)] = [_]
        rw [← this, lI_top]
      | cons c r =>
        have hbc := p1 c List.mem_cons_self
        have hc := ht c (List.mem_cons_of_mem _ List.mem_cons_self)
        rw [ih (f := b + 1) (by omega) p2 (fun x hx => p1 x hx) (fun e hm => by
          rcases he e hm with h | h
          · exact .inl (by omega)
          · rcases List.mem_cons.mp h with h | h
            · exact .inl (by omega)
            · exact .inr h) (by simp) (fun x hx => ht x (List.mem_cons_of_mem _ hx)) (by
          rcases List.mem_cons.mp hm with h | h
          · omega
          · exact h)]
        obtain ⟨r', hr⟩ := startsG_head (f := b + 1) (b := c) (r := r) (by omega)
        rw [hr, List.map_cons, List.headD_cons, lI_eq (q := b) (by omega)]
    rw [startsG_cons]
    by_cases h : f < b
    · rw [if_pos h]
      show upL (sUpTo z ns es) (es.length : Int) (f :: b :: startsG (b + 1) r) = (f :: b :: startsG (b + 1) r).map (lI z ns es)
      rw [upL_cons, step, List.map_cons (a := f)]
      congr 1
      show sUpTo z ns es f (lI z ns es b) = _
      exact (gap_l' P (fun e hm => by
        rcases he e hm with k | k
        · exact .inl k
        · rcases List.mem_cons.mp k with k | k
          · exact .inr (by omega)
          · have := p1 _ k
            exact .inr (by omega)) h0 hbt (Int.le_refl _) h).symm
    · have : f = b := by omega
      subst this
      rw [if_neg h]
      exact step
theorem late_eq (hz : 1 ≤ z) (pos : ∀ e ∈ es, 0 ≤ e.2) (h : obsD z ns es = .none) : late z ns es = (starts z es).map (lI z ns es) := by
  obtain ⟨_, P⟩ := (poss_iff hz pos).mp h
  rw [late_upL]
  rcases top_mem hz pos with ⟨rfl, _⟩ | ⟨_, e, he, ht⟩
  · rfl
  · refine walk_l P (f := 0) (Int.le_refl 0) (lt_seen z es) (seen_pos hz pos) (fun e he => .inr ((mem_seen z _ es).mpr ⟨e, he, rfl⟩)) ?_ (fun b hb => ?_) ((mem_seen z _ es).mpr ⟨e, he, ht⟩)
    · intro h
      have := (mem_seen z _ es).mpr ⟨e, he, rfl⟩
      rw [h] at this
      cases this
    · obtain ⟨e', he', rfl⟩ := (mem_seen z b es).mp hb
      exact topB_le he'
/-- the span of a block -/
theorem span_at {q : Int} : ∀ {xs : List Int} {f : Int}, xs.Pairwise (· < ·) → (∀ b ∈ xs, f ≤ b) → f ≤ q → (∃ b ∈ xs, q ≤ b) →
    ∃ i st, (startsG f xs)[i]? = some st ∧ ((startsG f xs).filter fun b => decide (b ≤ q)).length = i + 1 ∧ f ≤ st ∧ st ≤ q ∧ (st = q ∨ ∃ b, b ∈ xs ∧ q < b ∧ ∀ x ∈ xs, x < st ∨ b ≤ x) := by
  intro xs
  induction xs with
  | nil =>
    rintro f _ _ _ ⟨b, hb, _⟩
    cases hb
  | cons b r ih =>
    rintro f hp hb hq ⟨b', hb', hle⟩
    obtain ⟨p1, p2⟩ := List.pairwise_cons.mp hp
    have hfb := hb b List.mem_cons_self
    have far : ∀ x ∈ startsG (b + 1) r, b + 1 ≤ x := fun x hx => ((NbH.startsG_ok r (b + 1) p2 fun y hy => p1 y hy).2 x hx).1
    rw [startsG_cons]
    rcases Int.lt_trichotomy q b with h | h | h
    · have hfl : f < b := by omega
      rw [if_pos hfl]
      refine ⟨0, f, rfl, ?_, Int.le_refl _, hq, .inr ⟨b, List.mem_cons_self, h, fun x hx => ?_⟩⟩
      · show (List.filter _ (f :: b :: startsG (b + 1) r)).length = 1
        rw [List.filter_cons_of_pos (by simpa using hq), List.filter_cons_of_neg (by simpa using h), List.filter_eq_nil_iff.mpr fun x hx => by have := far x hx; simp; omega]
        rfl
      · rcases List.mem_cons.mp hx with rfl | hx
        · exact .inr (Int.le_refl _)
        · have := p1 x hx
          exact .inr (by omega)
    · subst h
      have hr : (List.filter (fun b => decide (b ≤ q)) (startsG (q + 1) r)) = [] := List.filter_eq_nil_iff.mpr fun x hx => by have := far x hx; simp; omega
      by_cases hfl : f < q
      · rw [if_pos hfl]
        refine ⟨1, q, rfl, ?_, hq, Int.le_refl _, .inl rfl⟩
        show (List.filter _ (f :: q :: startsG (q + 1) r)).length = 2
        rw [List.filter_cons_of_pos (by simpa using hq), List.filter_cons_of_pos (by simp), hr]
        rfl
      · rw [if_neg hfl]
        refine ⟨0, q, rfl, ?_, hq, Int.le_refl _, .inl rfl⟩
        show (List.filter _ (q :: startsG (q + 1) r)).length = 1
        rw [List.filter_cons_of_pos (by simp), hr]
        rfl
    · have hb2 : b' ∈ r := by
        rcases List.mem_cons.mp hb' with rfl | k
        · omega
        · exact k
      obtain ⟨i, st, h1, h2, h3, h4, h5⟩ := ih (f := b + 1) p2 (fun x hx => p1 x hx) (by omega) ⟨b', hb2, hle⟩
      have h6 : st = q ∨ ∃ c, c ∈ b :: r ∧ q < c ∧ ∀ x ∈ b :: r, x < st ∨ c ≤ x := by
        rcases h5 with h5 | ⟨c, c1, c2, c3⟩
        · exact .inl h5
        · refine .inr ⟨c, List.mem_cons_of_mem _ c1, c2, fun x hx => ?_⟩
          rcases List.mem_cons.mp hx with rfl | hx
          · exact .inl (by omega)
          · exact c3 x hx
      by_cases hfl : f < b
      · rw [if_pos hfl]
        refine ⟨i + 2, st, h1, ?_, by omega, h4, h6⟩
        show (List.filter _ (f :: b :: startsG (b + 1) r)).length = _
        rw [List.filter_cons_of_pos (by simpa using hq), List.filter_cons_of_pos (by simp; omega), List.length_cons, List.length_cons, h2]
      · rw [if_neg hfl]
        refine ⟨i + 1, st, h1, ?_, by omega, h4, h6⟩
        show (List.filter _ (b :: startsG (b + 1) r)).length = _
        rw [List.filter_cons_of_pos (by simp; omega), List.length_cons, h2]
/-- where a block's e and l stand in the lists of the walks -/
theorem at_span (hz : 1 ≤ z) (pos : ∀ e ∈ es, 0 ≤ e.2) (h : obsD z ns es = .none) (h0 : 0 ≤ q) (h1 : q ≤ topB z es) :
    ∃ i, ((starts z es).filter fun b => decide (b ≤ q)).length = i + 1 ∧ (earl z ns es)[i]? = some (eI z ns es q) ∧ (late z ns es)[i]? = some (lI z ns es q) := by
  obtain ⟨_, P⟩ := (poss_iff hz pos).mp h
  rcases top_mem hz pos with ⟨_, ht⟩ | ⟨_, e, he, ht⟩
  · omega
  · obtain ⟨i, st, g1, g2, g3, g4, g5⟩ := span_at (q := q) (lt_seen z es) (seen_pos hz pos) h0 ⟨e.2 / z, (mem_seen z _ es).mpr ⟨e, he, rfl⟩, by omega⟩
    have g1' : (starts z es)[i]? = some st := g1
    refine ⟨i, g2, ?_, ?_⟩
    · rw [earl_eq hz pos h, List.getElem?_map, g1', Option.map_some]
      rcases g5 with rfl | ⟨b, hb, hqb, g5⟩
      · rfl
      · rw [gap_e' (f := st) (b := b) (q := q) (fun e he => g5 _ ((mem_seen z _ es).mpr ⟨e, he, rfl⟩)) g3 (P st g3 (by omega)) g4 hqb]
    · rw [late_eq hz pos h, List.getElem?_map, g1', Option.map_some]
      rcases g5 with rfl | ⟨b, hb, hqb, g5⟩
      · rfl
      · obtain ⟨e', he', hb'⟩ := (mem_seen z b es).mp hb
        have hbt : b ≤ topB z es := hb' ▸ topB_le he'
        have gp : ∀ e ∈ es, e.2 / z < st ∨ b ≤ e.2 / z := fun e he => g5 _ ((mem_seen z _ es).mpr ⟨e, he, rfl⟩)
        rw [gap_l' P gp g3 hbt g4 hqb, gap_l' P gp g3 hbt (Int.le_refl _) (by omega)]
end
/-! ### promises -/
def sp_check_block_up_to (_ : PySem.W.Frag) : Sp := fun vs H Q _ => ∃ i m : Int, vs = [.int i, .int m] ∧ 0 ≤ i ∧ i ≤ m ∧ Q .non H
def sp_check_entries_possible (_ : PySem.W.Frag) : Sp := fun vs H Q _ => ∃ (z : Int) (c s : Addr) (ns : List Str) (es : List En), vs = [.int z, .ref c, .ref s] ∧ WF z ns es ∧ CrewAt H c ns ∧ EntsAt H s es ∧ obsD z ns es = .none ∧ ∀ H', Same H H' → Q .non H'
def sp_check_possible (K : PySem.W.Frag) : Sp := fun vs H Q _ => ∃ p b z ns es, vs = [.ref p] ∧ LogAt K H p b z ns es ∧ obsD z ns es = .none ∧ ∀ H', Same H H' → Q .non H'
def sp_check_asked (K : PySem.W.Frag) : Sp := fun vs H Q _ => ∃ p b z ns es i, vs = [.ref p, .int i] ∧ LogAt K H p b z ns es ∧ 0 ≤ i ∧ i ≤ topB z es ∧ obsD z ns es = .none ∧ ∀ H', Same H H' → Q .non H'
def sp_earliest (K : PySem.W.Frag) : Sp := fun vs H Q _ => ∃ p b z ns es i, vs = [.ref p, .int i] ∧ LogAt K H p b z ns es ∧ 0 ≤ i ∧ i ≤ topB z es ∧ obsD z ns es = .none ∧ ∀ H', Same H H' → Q (.int (eI z ns es i)) H'
def sp_latest (K : PySem.W.Frag) : Sp := fun vs H Q _ => ∃ p b z ns es i, vs = [.ref p, .int i] ∧ LogAt K H p b z ns es ∧ 0 ≤ i ∧ i ≤ topB z es ∧ obsD z ns es = .none ∧ ∀ H', Same H H' → Q (.int (lI z ns es i)) H'
end NbI

set_option Elab.async false
set_option linter.all false
set_option maxRecDepth 100000
set_option maxHeartbeats 4000000
/-! Logs that are alike: numbers stretched, blocks moved along. -/
namespace NbJ
open PySem PySem.Spec PyProof.Rows L2 Nb NbE NbS NbF NbP NbK NbL NbX NbW NbZ NbM NbQ NbC NbG NbH NbI
/-- entries changed so that all blocks move s along, in the same order of numbers -/
structure Alike (z z' s : Int) (f : En → En) : Prop where
  nm : ∀ e, (f e).1 = e.1
  bk : ∀ e, (f e).2 / z' = e.2 / z + s
  lt : ∀ e e', (f e).2 < (f e').2 ↔ e.2 < e'.2
section
variable {z z' s : Int} {f : En → En} {ns : List Str} {es : List En} {n : Str} {q t : Int}
theorem Alike.hold (A : Alike z z' s f) : ∀ es : List En, hold z' (es.map f) (q + s) = hold z es q
  | [] => rfl
  | e :: es => by
    rw [List.map_cons, hold_cons, hold_cons, A.hold es, A.nm, A.bk]
    by_cases h : e.2 / z = q
    · rw [if_pos h, if_pos (by omega)]
    · rw [if_neg h, if_neg (by omega)]
theorem Alike.plc (A : Alike z z' s f) (n : Str) : ∀ (es : List En) (k : Nat), plc z' n k (es.map f) = (plc z n k es).map fun p => (p.1, p.2 + s)
  | [], _ => rfl
  | e :: es, k => by
    rw [List.map_cons, plc_cons, plc_cons, A.nm, A.bk, A.plc n es (k + 1)]
    by_cases h : e.1 = n
    · rw [if_pos h, if_pos h]
      rfl
    · rw [if_neg h, if_neg h]
theorem low_map (q s : Int) : ∀ (xs : List (Int × Int)) (l : Int), NbW.low (q + s) (xs.map fun p => (p.1, p.2 + s)) l = NbW.low q xs l
  | [], _ => rfl
  | (i, b) :: r, l => by
    rw [List.map_cons, low_cons, low_cons]
    have e : (if b + s < q + s then i + 1 else l) = if b < q then i + 1 else l := by
      by_cases h : b < q
      · rw [if_pos h, if_pos (by omega)]
      · rw [if_neg h, if_neg (by omega)]
    rw [e]
    exact low_map q s r _
theorem high_map (q s : Int) : ∀ (xs : List (Int × Int)) (l : Int), NbW.high (q + s) (xs.map fun p => (p.1, p.2 + s)) l = NbW.high q xs l
  | [], _ => rfl
  | (i, b) :: r, l => by
    rw [List.map_cons, high_cons, high_cons]
    have e : (if b + s < q + s then l else min l i) = if b < q then l else min l i := by
      by_cases h : b < q
      · rw [if_pos h, if_pos (by omega)]
      · rw [if_neg h, if_neg (by omega)]
    rw [e]
    exact high_map q s r _
theorem Alike.winO (A : Alike z z' s f) : winO z' (es.map f) n (q + s) = winO z es n q := by
  unfold NbM.winO
  rw [A.hold, A.plc, low_map, high_map, List.length_map]
theorem Alike.wins (A : Alike z z' s f) : wins z' (es.map f) ns (q + s) = wins z es ns q := by
  unfold NbM.wins
  congr 1
  funext n
  exact A.winO
theorem Alike.sFrom (A : Alike z z' s f) : sFrom z' ns (es.map f) (q + s) t = sFrom z ns es q t := by
  unfold NbM.sFrom
  rw [A.wins, List.length_map]
theorem Alike.sUpTo (A : Alike z z' s f) : sUpTo z' ns (es.map f) (q + s) t = sUpTo z ns es q t := by
  unfold NbM.sUpTo
  rw [A.wins]
theorem Alike.fine (A : Alike z z' s f) : Fine z' (es.map f) ↔ Fine z es := by
  have two : ∀ e e', (f e).2 ≠ (f e').2 ↔ e.2 ≠ e'.2 := fun e e' => by
    have := A.lt e e'
    have := A.lt e' e
    omega
  have sha : ∀ e e', ((f e).2 / z' = (f e').2 / z' → (f e).1 = (f e').1) ↔ (e.2 / z = e'.2 / z → e.1 = e'.1) := fun e e' => by
    rw [A.bk, A.bk, A.nm, A.nm]
    constructor
    · exact fun h g => h (by omega)
    · exact fun h g => h (by omega)
  have bac : ∀ e e', ((f e).1 = (f e').1 → (f e).2 ≤ (f e').2) ↔ (e.1 = e'.1 → e.2 ≤ e'.2) := fun e e' => by
    rw [A.nm, A.nm]
    have := A.lt e' e
    constructor
    · exact fun h g => by have := h g; omega
    · exact fun h g => by have := h g; omega
  constructor
  · rintro ⟨a, b, c⟩
    rw [List.pairwise_map] at a b c
    exact ⟨a.imp fun h => (two _ _).mp h, b.imp fun h => (sha _ _).mp h, c.imp fun h => (bac _ _).mp h⟩
  · rintro ⟨a, b, c⟩
    refine ⟨?_, ?_, ?_⟩ <;> rw [List.pairwise_map]
    · exact a.imp fun h => (two _ _).mpr h
    · exact b.imp fun h => (sha _ _).mpr h
    · exact c.imp fun h => (bac _ _).mpr h
theorem topB_of {m : Int} (hz : 1 ≤ z) (pos : ∀ e ∈ es, 0 ≤ e.2) (h1 : ∃ e ∈ es, e.2 / z = m) (h2 : ∀ e ∈ es, e.2 / z ≤ m) : topB z es = m := by
  obtain ⟨e, he, h⟩ := h1
  have := topB_le (z := z) he
  rcases top_mem hz pos with ⟨rfl, _⟩ | ⟨_, e', he', h'⟩
  · cases he
  · have := h2 e' he'
    omega
theorem Alike.topB (A : Alike z z' s f) (hz : 1 ≤ z) (hz' : 1 ≤ z') (pos : ∀ e ∈ es, 0 ≤ e.2) (pos' : ∀ e ∈ es.map f, 0 ≤ e.2) (hne : es ≠ []) : topB z' (es.map f) = topB z es + s := by
  rcases top_mem hz pos with ⟨h, _⟩ | ⟨_, e, he, h⟩
  · exact absurd h hne
  · refine topB_of hz' pos' ⟨f e, List.mem_map_of_mem he, by rw [A.bk, h]⟩ fun x hx => ?_
    obtain ⟨e', he', rfl⟩ := List.mem_map.mp hx
    rw [A.bk]
    have := topB_le (z := z) he'
    omega
/-- below all blocks that are seen each server has a window from slot 0 -/
theorem inW_low (hns : ns ≠ []) (h : ∀ e ∈ es, q < e.2 / z) : InW z ns es q 0 := by
  cases ns with
  | nil => exact absurd rfl hns
  | cons n r =>
    refine ⟨_, List.mem_filterMap.mpr ⟨n, List.mem_cons_self, win_some fun k e hk hq => ?_⟩, ?_, ?_⟩
    · have := h e (List.mem_of_getElem? hk)
      omega
    · refine (low_le q z n 0 es 0 0 (Int.le_refl _)).mpr ⟨Int.le_refl _, fun i e hi _ hq => ?_⟩
      have := h e (List.mem_of_getElem? hi)
      omega
    · exact (high_ge q z n 0 es 0 _).mpr ⟨by omega, fun i e hi _ _ => by omega⟩
theorem e_low (hns : ns ≠ []) {b : Int} (h : ∀ e ∈ es, b < e.2 / z) (h0 : 0 ≤ q) (h1 : q ≤ b) : eI z ns es q = 0 := by
  have h2 := e_least' (z := z) (ns := ns) (es := es) (g := fun _ => 0) (f := b) (Int.le_refl _) (fun _ _ _ => Int.le_refl _) (fun x _ hx => inW_low hns fun e he => by have := h e he; omega) h0 h1
  have h3 := eI_pos (z := z) (ns := ns) (es := es) (q := q)
  omega
theorem Alike.eI (A : Alike z z' s f) (hns : ns ≠ []) (hs : 0 ≤ s) (pos : ∀ e ∈ es, 0 ≤ e.2 / z) : ∀ q : Nat, eI z' ns (es.map f) (q + s) = eI z ns es q
  | 0 => by
    rw [eI_eq (q := ((0 : Nat) : Int) + s) (by omega), A.sFrom, eI_eq (q := ((0 : Nat) : Int)) (by omega)]
    congr 1
    unfold pI
    rw [if_pos (by omega : ((0 : Nat) : Int) ≤ 0)]
    by_cases h : s = 0
    · rw [if_pos (by omega)]
    · rw [if_neg (by omega)]
      refine e_low hns (b := s - 1) (fun e he => ?_) (by omega) (by omega)
      obtain ⟨e', he', rfl⟩ := List.mem_map.mp he
      have := pos e' he'
      rw [A.bk]
      omega
  | q + 1 => by
    have ih := A.eI hns hs pos q
    rw [eI_eq (q := ((q + 1 : Nat) : Int) + s) (by omega), A.sFrom, eI_eq (q := ((q + 1 : Nat) : Int)) (by omega), show ((q + 1 : Nat) : Int) + s = ((q : Int) + s) + 1 by omega, pI_succ (by omega), ih, show ((q + 1 : Nat) : Int) = (q : Int) + 1 by omega, pI_succ (by omega)]
theorem Alike.eI' (A : Alike z z' s f) (hns : ns ≠ []) (hs : 0 ≤ s) (pos : ∀ e ∈ es, 0 ≤ e.2 / z) (h0 : 0 ≤ q) : NbI.eI z' ns (es.map f) (q + s) = NbI.eI z ns es q := by
  have := A.eI hns hs pos q.toNat
  rwa [show (q.toNat : Int) = q by omega] at this
theorem Alike.lI (A : Alike z z' s f) (ht : NbL.topB z' (es.map f) = NbL.topB z es + s) : ∀ k : Nat, lI z' ns (es.map f) (NbL.topB z es - k + s) = lI z ns es (NbL.topB z es - k)
  | 0 => by
    rw [show NbL.topB z es - ((0 : Nat) : Int) = NbL.topB z es by omega, lI_top, ← ht, lI_top, ht, A.sUpTo, List.length_map]
  | k + 1 => by
    have ih := A.lI ht k
    rw [lI_eq (q := NbL.topB z es - ((k + 1 : Nat) : Int) + s) (by omega), A.sUpTo, lI_eq (q := NbL.topB z es - ((k + 1 : Nat) : Int)) (by omega), show NbL.topB z es - ((k + 1 : Nat) : Int) + s + 1 = NbL.topB z es - k + s by omega, ih, show NbL.topB z es - ((k + 1 : Nat) : Int) + 1 = NbL.topB z es - k by omega]
theorem Alike.lI' (A : Alike z z' s f) (ht : NbL.topB z' (es.map f) = NbL.topB z es + s) (h : q ≤ NbL.topB z es) : NbI.lI z' ns (es.map f) (q + s) = NbI.lI z ns es q := by
  have := A.lI (ns := ns) ht (NbL.topB z es - q).toNat
  rwa [show NbL.topB z es - ((NbL.topB z es - q).toNat : Int) = q by omega] at this
/-- alike logs are possible alike -/
theorem Alike.poss (A : Alike z z' s f) (hns : ns ≠ []) (hs : 0 ≤ s) (hz : 1 ≤ z) (hz' : 1 ≤ z') (pos : ∀ e ∈ es, 0 ≤ e.2) (pos' : ∀ e ∈ es.map f, 0 ≤ e.2) : obsD z' ns (es.map f) = .none ↔ obsD z ns es = .none := by
  by_cases hne : es = []
  · subst hne
    have t0 : ∀ z, NbL.topB z ([] : List En) = -1 := fun _ => rfl
    rw [poss_iff hz' pos', poss_iff hz pos]
    constructor
    · exact fun h => ⟨A.fine.mp h.1, fun q h0 h1 => by rw [t0] at h1; omega⟩
    · exact fun h => ⟨A.fine.mpr h.1, fun q h0 h1 => by have h1' : q ≤ -1 := h1; omega⟩
  · have bp : ∀ e ∈ es, 0 ≤ e.2 / z := fun e he => Int.ediv_nonneg (pos e he) (by omega)
    have ht := A.topB hz hz' pos pos' hne
    rw [poss_iff hz' pos', poss_iff hz pos, A.fine, ht, List.length_map]
    refine and_congr_right fun _ => ⟨fun h q h0 h1 => ?_, fun h q h0 h1 => ?_⟩
    · have := h (q + s) (by omega) (by omega)
      rwa [A.eI' hns hs bp h0] at this
    · by_cases g : s ≤ q
      · have := h (q - s) (by omega) (by omega)
        rw [← A.eI' hns hs bp (by omega), show q - s + s = q by omega] at this
        exact this
      · rw [e_low hns (b := s - 1) (fun e he => by
          obtain ⟨e', he', rfl⟩ := List.mem_map.mp he
          have := bp e' he'
          rw [A.bk]
          omega) h0 (by omega)]
        omega
end
/-! ### numbers and sizes so many times greater -/
def mulE (t : Int) (e : En) : En := (e.1, e.2 * t)
theorem alike_mul {z t : Int} (hz : 1 ≤ z) (ht : 1 ≤ t) : Alike z (z * t) 0 (mulE t) where
  nm := fun _ => rfl
  bk := fun e => by
    show e.2 * t / (z * t) = _
    rw [Int.mul_ediv_mul_of_pos_left _ _ (by omega), Int.add_zero]
  lt := fun e e' => Int.mul_lt_mul_right (by omega)
def addE (d : Int) (e : En) : En := (e.1, e.2 + d)
theorem alike_add {z s : Int} (hz : 1 ≤ z) : Alike z z s (addE (s * z)) where
  nm := fun _ => rfl
  bk := fun e => by
    show (e.2 + s * z) / z = _
    rw [Int.add_mul_ediv_right _ _ (by omega)]
  lt := fun e e' => by
    show e.2 + s * z < e'.2 + s * z ↔ _
    omega
/-- .. what is right of the one is right of the other -/
theorem right_map {z z' : Int} {f : En → En} {ns : List Str} {es : List En} (A : Alike z z' 0 f) {th : Thing} (h : Right z ns es th) : Right z' ns (es.map f) th := by
  cases th with
  | two w i j =>
    obtain ⟨h1, e, g, h2, h3, h4⟩ := h
    refine ⟨h1, f e, f g, by rw [List.getElem?_map, h2]; rfl, by rw [List.getElem?_map, h3]; rfl, ?_⟩
    rcases h4 with ⟨w1, h5⟩ | ⟨w1, h5, h6⟩ | ⟨w1, h5, h6⟩
    · refine .inl ⟨w1, ?_⟩
      have := A.lt e g
      have := A.lt g e
      omega
    · exact .inr (.inl ⟨w1, by rw [A.nm, A.nm]; exact h5, by rw [A.bk, A.bk, h6]⟩)
    · exact .inr (.inr ⟨w1, by rw [A.nm, A.nm]; exact h5, (A.lt _ _).mpr h6⟩)
  | pushed st =>
    obtain ⟨h1, h2, h3⟩ := h
    refine ⟨A.fine.mpr h1, ?_, h3⟩
    have key : ∀ (st : List (Int × Int)) (low s : Int), SOk z ns es low s st → SOk z' ns (es.map f) low s st := by
      intro st
      induction st with
      | nil =>
        intro low s h
        show s = ((es.map f).length : Int) + 1
        rw [List.length_map]
        exact h
      | cons p r ih =>
        rintro low s ⟨k1, ⟨e, ke, k2⟩, k3, k4, k5, k6⟩
        refine ⟨k1, ⟨f e, List.mem_map_of_mem ke, by rw [A.bk]; omega⟩, k3, by rw [List.length_map]; exact k4, ?_, ih _ _ k6⟩
        have := A.sFrom (ns := ns) (es := es) (q := p.1) (t := s)
        rw [Int.add_zero] at this
        rw [this, k5]
    exact key st _ _ h2
/-! ### what the law tells of a log -/
def possB (z : Int) (ns : List Str) (es : List En) : Bool := match obsD z ns es with
  | .none => true
  | _ => false
theorem possB_iff {z : Int} {ns : List Str} {es : List En} : possB z ns es = true ↔ obsD z ns es = .none := by
  unfold possB
  cases obsD z ns es <;> simp
def rowD (z : Int) (ns : List Str) (es : List En) (q : Int) : List PyData :=
  PyData.list ((ns.take 3).map fun n => duD (winO z es n q)) :: if possB z ns es = true ∧ 0 ≤ q ∧ q ≤ topB z es then [.tuple [.int (eI z ns es q), .int (lI z ns es q)]] else []
def rowsD (z : Int) (ns : List Str) (es : List En) (sh : Int) (qs : List Int) : List PyData := qs.flatMap fun q => rowD z ns es (q + sh)
def toldD (z : Int) (ns : List Str) (es : List En) (sh : Int) (qs : List Int) : PyData := .list [.bool (possB z ns es), .list (rowsD z ns es sh qs)]
theorem rowsD_snoc (z : Int) (ns : List Str) (es : List En) (sh : Int) (qs : List Int) (q : Int) : rowsD z ns es sh (qs ++ [q]) = rowsD z ns es sh qs ++ rowD z ns es (q + sh) := by
  unfold rowsD
  rw [List.flatMap_append]
  simp
/-- data that holds no list of whole numbers: it stays when the law draws -/
def okL : List PyData → Prop
  | .int _ :: _ => False
  | _ => True
mutual
def okD : PyData → Prop
  | .list ds => okL ds ∧ okDs ds
  | .tuple ds => okDs ds
  | _ => True
def okDs : List PyData → Prop
  | [] => True
  | d :: ds => okD d ∧ okDs ds
end
theorem okL_ne {K : PySem.W.Frag} {H : Hp} {fa a : Addr} {ds : List PyData} {xs : List V} (f : Feed H fa) (h : H a = some (.lst xs)) (hd : DpAll K H xs ds) (o : okL ds) : a ≠ fa := by
  obtain ⟨x, y, z, e⟩ := f
  rintro rfl
  rw [h] at e
  cases e
  cases hd with
  | cons a b =>
    cases a
    exact o
theorem sqL_stp {K : PySem.W.Frag} {H H' : Hp} {fa a : Addr} {ds : List PyData} {xs : List V} (f : Feed H fa) (e : Stp fa H H') (hd : DpAll K H xs ds) (o : okL ds) (h : SqL K H a xs) : SqL K H' a xs := by
  rcases h with (h | ⟨u, h⟩) | h
  · exact .inl (.inl (e.kp _ _ (okL_ne f h hd o) h))
  · refine .inl (.inr ⟨u, e.kp _ _ ?_ h⟩)
    obtain ⟨x, y, z, g⟩ := f
    rintro rfl
    rw [h] at g
    cases g
  · exact .inr h
theorem sqT_stp {K : PySem.W.Frag} {H H' : Hp} {fa a : Addr} {xs : List V} (f : Feed H fa) (e : Stp fa H H') (h : SqT K H a xs) : SqT K H' a xs := by
  obtain ⟨x, y, z, g⟩ := f
  rcases h with (h | ⟨u, h⟩) | h
  · exact .inl (.inl (e.kp _ _ (fun k => by rw [k, g] at h; cases h) h))
  · exact .inl (.inr ⟨u, e.kp _ _ (fun k => by rw [k, g] at h; cases h) h⟩)
  · exact .inr h
mutual
theorem dp_stp {K : PySem.W.Frag} {H H' : Hp} {fa : Addr} (f : Feed H fa) (e : Stp fa H H') : ∀ (d : PyData) (v : V), okD d → Dp K H v d → Dp K H' v d
  | .none, _, _, h => by cases h; exact .non
  | .bool b, _, _, h => by cases h; exact .bl _
  | .int i, _, _, h => by cases h; exact .int _
  | .str x, _, _, h => by cases h; exact .str _
  | .list ds, _, o, h => by
    unfold okD at o
    cases h with
    | lst a b => exact .lst (sqL_stp f e b o.1 a) (dps_stp f e ds _ o.2 b)
  | .tuple ds, _, o, h => by
    unfold okD at o
    cases h with
    | tup a b => exact .tup (sqT_stp f e a) (dps_stp f e ds _ o b)
  | .dict _, _, _, h => by cases h
theorem dps_stp {K : PySem.W.Frag} {H H' : Hp} {fa : Addr} (f : Feed H fa) (e : Stp fa H H') : ∀ (ds : List PyData) (vs : List V), okDs ds → DpAll K H vs ds → DpAll K H' vs ds
  | [], _, _, h => by cases h; exact .nil
  | d :: ds, _, o, h => by
    unfold okDs at o
    cases h with
    | cons a b => exact .cons (dp_stp f e d _ o.1 a) (dps_stp f e ds _ o.2 b)
end
theorem okDs_of : ∀ {ds : List PyData}, (∀ d ∈ ds, okD d) → okDs ds
  | [], _ => by unfold okDs; trivial
  | d :: ds, h => by
    unfold okDs
    exact ⟨h d List.mem_cons_self, okDs_of fun x hx => h x (List.mem_cons_of_mem _ hx)⟩
theorem okD_du (w : Option (Int × Int)) : okD (duD w) := by
  cases w with
  | none => unfold duD okD; trivial
  | some p =>
    unfold duD okD okDs okDs okDs okD
    exact ⟨trivial, trivial, trivial⟩
theorem okL_du : ∀ ws : List (Option (Int × Int)), okL (ws.map duD)
  | [] => trivial
  | none :: _ => trivial
  | some _ :: _ => trivial
theorem okD_row {z : Int} {ns : List Str} {es : List En} {q : Int} : ∀ d ∈ rowD z ns es q, okD d := fun d hd => by
  unfold rowD at hd
  rcases List.mem_cons.mp hd with rfl | hd
  · unfold okD
    have e : ((ns.take 3).map fun n => duD (winO z es n q)) = ((ns.take 3).map fun n => winO z es n q).map duD := by rw [List.map_map]; rfl
    rw [e]
    refine ⟨okL_du _, okDs_of fun x hx => ?_⟩
    obtain ⟨w, _, rfl⟩ := List.mem_map.mp hx
    exact okD_du w
  · split at hd
    · rw [List.mem_singleton.mp hd]
      unfold okD okDs okDs okDs okD
      exact ⟨trivial, trivial, trivial⟩
    · cases hd
theorem okD_told (z : Int) (ns : List Str) (es : List En) (sh : Int) (qs : List Int) : okD (toldD z ns es sh qs) := by
  unfold toldD okD
  refine ⟨trivial, okDs_of fun d hd => ?_⟩
  rcases List.mem_cons.mp hd with rfl | hd
  · unfold okD; trivial
  · rw [List.mem_singleton.mp hd]
    unfold okD
    refine ⟨?_, okDs_of fun x hx => ?_⟩
    · cases qs with
      | nil => exact trivial
      | cons q r => exact trivial
    · obtain ⟨q, _, h⟩ := List.mem_flatMap.mp hx
      exact okD_row _ h
/-! .. and can be compared -/
theorem lay_all {ds : List PyData} (h : ∀ d ∈ ds, PyData.canLay0 d = true) : PyData.canLayAll0 ds = true := by
  induction ds with
  | nil => rfl
  | cons d ds ih =>
    show (PyData.canLay0 d && PyData.canLayAll0 ds) = true
    rw [h d List.mem_cons_self, ih fun x hx => h x (List.mem_cons_of_mem _ hx)]
    rfl
theorem dep_all {m : Nat} {ds : List PyData} (h : ∀ d ∈ ds, PyData.depth d ≤ m) : PyData.depthAll ds ≤ m := by
  induction ds with
  | nil => unfold PyData.depthAll; omega
  | cons d ds ih =>
    unfold PyData.depthAll
    exact Nat.max_le.mpr ⟨h d List.mem_cons_self, ih fun x hx => h x (List.mem_cons_of_mem _ hx)⟩
theorem lay_du (w : Option (Int × Int)) : PyData.canLay0 (duD w) = true ∧ PyData.depth (duD w) ≤ 1 := by
  cases w with
  | none => exact ⟨rfl, by decide⟩
  | some p => exact ⟨rfl, by unfold duD PyData.depth PyData.depthAll PyData.depthAll PyData.depthAll PyData.depth; decide⟩
theorem lay_row {z : Int} {ns : List Str} {es : List En} {q : Int} : ∀ d ∈ rowD z ns es q, PyData.canLay0 d = true ∧ PyData.depth d ≤ 2 := fun d hd => by
  unfold rowD at hd
  rcases List.mem_cons.mp hd with rfl | hd
  · refine ⟨lay_all fun x hx => ?_, ?_⟩
    · obtain ⟨n, _, rfl⟩ := List.mem_map.mp hx
      exact (lay_du _).1
    · unfold PyData.depth
      have : PyData.depthAll ((ns.take 3).map fun n => duD (winO z es n q)) ≤ 1 := dep_all fun x hx => by
        obtain ⟨n, _, rfl⟩ := List.mem_map.mp hx
        exact (lay_du _).2
      omega
  · split at hd
    · rw [List.mem_singleton.mp hd]
      exact ⟨rfl, by unfold PyData.depth PyData.depthAll PyData.depthAll PyData.depthAll PyData.depth; decide⟩
    · cases hd
theorem shaped_told (z : Int) (ns : List Str) (es : List En) (sh : Int) (qs : List Int) : SeqAt.shaped (toldD z ns es sh qs) = true := by
  have h : ∀ d ∈ rowsD z ns es sh qs, PyData.canLay0 d = true ∧ PyData.depth d ≤ 2 := fun d hd => by
    obtain ⟨q, _, h⟩ := List.mem_flatMap.mp hd
    exact lay_row _ h
  unfold SeqAt.shaped
  rw [Bool.and_eq_true]
  refine ⟨lay_all (ds := [.bool (possB z ns es), .list (rowsD z ns es sh qs)]) fun d hd => ?_, decide_eq_true ?_⟩
  · rcases List.mem_cons.mp hd with rfl | hd
    · rfl
    · rw [List.mem_singleton.mp hd]
      exact lay_all fun d hd => (h d hd).1
  · have h1 : PyData.depthAll (rowsD z ns es sh qs) ≤ 2 := dep_all fun d hd => (h d hd).2
    have h2 : PyData.depthAll [.bool (possB z ns es), .list (rowsD z ns es sh qs)] ≤ 3 := dep_all fun d hd => by
      rcases List.mem_cons.mp hd with rfl | hd
      · unfold PyData.depth; omega
      · rw [List.mem_singleton.mp hd]
        unfold PyData.depth
        omega
    unfold toldD PyData.depth
    omega
theorem lay_shaped {d : PyData} (h : SeqAt.shaped d = true) : PyData.eqv d d = true := by
  unfold SeqAt.shaped at h
  rw [Bool.and_eq_true] at h
  exact SeqAt.eqv_refl d h.1
/-- the same is told of alike logs -/
theorem Alike.told {z z' s : Int} {f : En → En} {ns : List Str} {es : List En} {qs : List Int} (A : Alike z z' s f) (hns : ns ≠ []) (hs : 0 ≤ s) (hz : 1 ≤ z) (hz' : 1 ≤ z') (pos : ∀ e ∈ es, 0 ≤ e.2) (pos' : ∀ e ∈ es.map f, 0 ≤ e.2) (hq : ∀ q ∈ qs, 0 ≤ q)
    (h : es ≠ [] ∨ s = 0) : toldD z' ns (es.map f) s qs = toldD z ns es 0 qs := by
  have hp : possB z' ns (es.map f) = possB z ns es := by
    rw [Bool.eq_iff_iff, possB_iff, possB_iff]
    exact A.poss hns hs hz hz' pos pos'
  have bp : ∀ e ∈ es, 0 ≤ e.2 / z := fun e he => Int.ediv_nonneg (pos e he) (by omega)
  unfold toldD rowsD
  rw [hp]
  congr 3
  refine congrArg _ ?_
  have hr : ∀ q ∈ qs, rowD z' ns (es.map f) (q + s) = rowD z ns es (q + 0) := fun q hq' => by
    have q0 := hq q hq'
    unfold rowD
    rw [hp, Int.add_zero]
    have e1 : ((ns.take 3).map fun n => duD (NbM.winO z' (es.map f) n (q + s))) = (ns.take 3).map fun n => duD (NbM.winO z es n q) := by
      congr 1
      funext n
      rw [A.winO]
    rw [e1]
    congr 1
    by_cases hne : es = []
    · subst hne
      have t0 : ∀ z, NbL.topB z ([] : List En) = -1 := fun _ => rfl
      rw [if_neg (by rintro ⟨_, _, h⟩; have h' : q + s ≤ -1 := h; omega), if_neg (by rintro ⟨_, _, h⟩; rw [t0] at h; omega)]
    · have ht := A.topB hz hz' pos pos' hne
      rw [ht, A.eI' hns hs bp q0]
      by_cases g : possB z ns es = true ∧ 0 ≤ q ∧ q ≤ NbL.topB z es
      · rw [if_pos g, if_pos ⟨g.1, by omega, by omega⟩, A.lI' ht g.2.2]
      · rw [if_neg g, if_neg fun k => g ⟨k.1, q0, by omega⟩]
  rw [List.flatMap_def, List.flatMap_def, List.map_congr_left hr]
/-! ### data that does not depend on the list that is filled with it -/
theorem upd_upd {H : Hp} {p : Addr} {o u : HO} : upd (upd H p o) p u = upd H p u := by
  funext b
  by_cases h : b = p
  · subst h
    rw [upd_same, upd_same]
  · rw [upd_ne h, upd_ne h, upd_ne h]
theorem upd_id {H : Hp} {p : Addr} {o : HO} (h : H p = some o) : upd H p o = H := by
  funext b
  by_cases g : b = p
  · subst g
    rw [upd_same, h]
  · rw [upd_ne g]
theorem same_upd {H H' : Hp} {p : Addr} {o : HO} (e : Same H H') : Same (upd H p o) (upd H' p o) := fun b u h => by
  by_cases g : b = p
  · subst g
    rw [upd_same] at h ⊢
    exact h
  · rw [upd_ne g] at h ⊢
    exact e _ _ h
def DpX (K : PySem.W.Frag) (H : Hp) (p : Addr) (v : V) (d : PyData) : Prop := ∀ o, Dp K (upd H p o) v d
def DpsX (K : PySem.W.Frag) (H : Hp) (p : Addr) (vs : List V) (ds : List PyData) : Prop := ∀ o, DpAll K (upd H p o) vs ds
section
variable {K : PySem.W.Frag} {H H' : Hp} {p : Addr} {v : V} {vs : List V} {d : PyData} {ds : List PyData} {o : HO}
theorem DpsX.nil : DpsX K H p [] [] := fun _ => .nil
theorem DpX.same (h : DpX K H p v d) (e : Same H H') : DpX K H' p v d := fun o => dp_same (same_upd e) _ _ (h o)
theorem DpsX.same (h : DpsX K H p vs ds) (e : Same H H') : DpsX K H' p vs ds := fun o => dpAll_same (same_upd e) _ _ (h o)
theorem DpX.put (h : DpX K H p v d) : DpX K (upd H p o) p v d := fun u => by rw [upd_upd]; exact h u
theorem DpsX.put (h : DpsX K H p vs ds) : DpsX K (upd H p o) p vs ds := fun u => by rw [upd_upd]; exact h u
theorem DpX.dp (h : DpX K H p v d) (g : H p = some o) : Dp K H v d := by
  have := h o
  rwa [upd_id g] at this
theorem DpsX.dps (h : DpsX K H p vs ds) (g : H p = some o) : DpAll K H vs ds := by
  have := h o
  rwa [upd_id g] at this
theorem DpsX.snoc (h : DpsX K H p vs ds) (g : DpX K H p v d) : DpsX K H p (vs ++ [v]) (ds ++ [d]) := fun o => dps_snoc (g o) (h o)
end
/-- an alike log shows what was told of a log -/
theorem shows_alike {K : PySem.W.Frag} {H0 H : Hp} {lo : Addr} {b : Bool} {z z' : Int} {ns ns' : List Str} {es es' : List En} {v : V} {Q : VK} {E : XK} (h : LogAt K H lo b z' ns' es') (hv : Told2 z ns es H0 H v) (hr : ∀ th, Right z ns es th → Right z' ns' es' th)
    (q : ∀ H', Same H H' → Q (.bl (!possB z ns es)) H') : sp_shows_obstacle K [.ref lo, v] H Q E := by
  rcases hv with ⟨rfl, ho⟩ | ⟨t, th, rfl, ht, r, hd⟩
  · have hp := possB_iff.mpr ho
    rw [hp] at q
    exact ⟨lo, b, z', ns', es', _, rfl, h, .inl ⟨rfl, q⟩⟩
  · have hp : possB z ns es = false := Bool.eq_false_iff.mpr fun g => by
      have := possB_iff.mp g
      rw [this] at hd
      cases th <;> cases hd
    rw [hp] at q
    exact ⟨lo, b, z', ns', es', _, rfl, h, .inr ⟨t, th, rfl, ht.at, hr th r, q⟩⟩
theorem not_self (b : Bool) : decide (V.bl (!b) = V.bl b) = false := by cases b <;> simp
theorem wf_map {z z' s : Int} {ns : List Str} {es : List En} {f : En → En} (hw : WF z ns es) (hz : SizeOk z') (A : Alike z z' s f) (h : ∀ e ∈ es, 0 ≤ (f e).2) : WF z' ns (es.map f) := ⟨hz, hw.cr, ⟨by rw [List.length_map]; exact hw.en.few, fun x hx => by
  obtain ⟨e, he, rfl⟩ := List.mem_map.mp hx
  have k := hw.en.ok e he
  unfold enOk at k ⊢
  simp only [Bool.and_eq_true, decide_eq_true_eq] at k ⊢
  exact ⟨by rw [A.nm]; exact k.1, h e he⟩⟩⟩
theorem crew_ne {ns : List Str} (h : Crew ns) : ns ≠ [] := by
  rintro rfl
  have := h.few.1
  simp at this
end NbJ

set_option Elab.async false
set_option linter.all false
set_option maxRecDepth 100000
set_option maxHeartbeats 4000000
/-! Slots in windows by entries; logs that grow, are renamed, have more servers. -/
namespace NbO
open PySem PySem.Spec PyProof.Rows L2 Nb NbE NbS NbF NbP NbK NbL NbX NbW NbZ NbM NbQ NbC NbG NbH NbI NbJ
/-- a slot in the window of a server -/
structure SlW (z : Int) (es : List En) (s : Str) (q k : Int) : Prop where
  k0 : 0 ≤ k
  k1 : k ≤ (es.length : Int)
  own : ∀ (i : Nat) e, es[i]? = some e → e.2 / z = q → e.1 = s
  lo : ∀ (i : Nat) e, es[i]? = some e → e.1 = s → e.2 / z < q → (i : Int) + 1 ≤ k
  hi : ∀ (i : Nat) e, es[i]? = some e → e.1 = s → ¬ e.2 / z < q → k ≤ (i : Int)
section
variable {z : Int} {ns : List Str} {es : List En} {s : Str} {q k : Int}
theorem winO_hold {w : Int × Int} (h : winO z es s q = some w) : (∀ (i : Nat) e, es[i]? = some e → e.2 / z = q → e.1 = s) ∧ w = (NbW.low q (plc z s 0 es) 0, high q (plc z s 0 es) (es.length : Int)) := by
  unfold NbM.winO at h
  split at h
  · cases h
  · rename_i g
    cases h
    refine ⟨fun i e hi hq => ?_, rfl⟩
    rw [Bool.not_eq_true, List.any_eq_false] at g
    have hm : e.1 ∈ hold z es q := by
      unfold hold
      exact List.mem_map.mpr ⟨e, List.mem_filter.mpr ⟨List.mem_of_getElem? hi, decide_eq_true hq⟩, rfl⟩
    simpa using g _ hm
theorem slW_iff : (∃ w, winO z es s q = some w ∧ w.1 ≤ k ∧ k ≤ w.2) ↔ SlW z es s q k := by
  have hl := low_le q z s k es 0 0 (Int.le_refl _)
  have hh := high_ge q z s k es 0 (es.length : Int)
  constructor
  · rintro ⟨w, h, h1, h2⟩
    obtain ⟨g, rfl⟩ := winO_hold h
    obtain ⟨a1, a2⟩ := hl.mp h1
    obtain ⟨b1, b2⟩ := hh.mp h2
    exact ⟨a1, b1, g, fun i e hi hn hq => by have := a2 i e hi hn hq; omega, fun i e hi hn hq => by have := b2 i e hi hn hq; omega⟩
  · rintro ⟨k0, k1, own, lo, hi⟩
    exact ⟨_, win_some own, hl.mpr ⟨k0, fun i e h hn hq => by have := lo i e h hn hq; omega⟩, hh.mpr ⟨k1, fun i e h hn hq => by have := hi i e h hn hq; omega⟩⟩
theorem inW_iff : InW z ns es q k ↔ ∃ s ∈ ns, SlW z es s q k := by
  constructor
  · rintro ⟨w, hw, h1, h2⟩
    obtain ⟨s, hs, h⟩ := List.mem_filterMap.mp hw
    exact ⟨s, hs, slW_iff.mp ⟨w, h, h1, h2⟩⟩
  · rintro ⟨s, hs, h⟩
    obtain ⟨w, hw, h1, h2⟩ := slW_iff.mpr h
    exact ⟨w, List.mem_filterMap.mpr ⟨s, hs, hw⟩, h1, h2⟩
end
/-! ### e and l depend on the slots alone -/
section
variable {z z' : Int} {ns ns' : List Str} {es es' : List En} {q q' s f : Int}
theorem sFrom_congr (hl : es.length = es'.length) (h : ∀ k, InW z ns es q k ↔ InW z' ns' es' q' k) : sFrom z ns es q s = sFrom z' ns' es' q' s := by
  have one : ∀ {z z' : Int} {ns ns' : List Str} {es es' : List En} {q q' : Int}, es.length = es'.length → (∀ k, InW z ns es q k ↔ InW z' ns' es' q' k) → sFrom z' ns' es' q' s ≤ sFrom z ns es q s := by
    intro z z' ns ns' es es' q q' hl h
    by_cases g : sFrom z ns es q s ≤ (es.length : Int)
    · obtain ⟨h1, h2⟩ := sFrom_in g
      exact sFrom_min h1 ((h _).mp h2)
    · have := sFrom_le (z := z') (ns := ns') (es := es') (q := q') (s := s)
      omega
  exact Int.le_antisymm (one hl.symm fun k => (h k).symm) (one hl h)
theorem sUpTo_congr (h : ∀ k, InW z ns es q k ↔ InW z' ns' es' q' k) : sUpTo z ns es q s = sUpTo z' ns' es' q' s := by
  have lo : ∀ {z : Int} {ns : List Str} {es : List En} {q : Int}, -1 ≤ sUpTo z ns es q s := fun {z ns es q} => (slotU_cand s (wins z es ns q) (-1)).1
  have one : ∀ {z z' : Int} {ns ns' : List Str} {es es' : List En} {q q' : Int}, (∀ k, InW z ns es q k ↔ InW z' ns' es' q' k) → sUpTo z ns es q s ≤ sUpTo z' ns' es' q' s := by
    intro z z' ns ns' es es' q q' h
    by_cases g : 0 ≤ sUpTo z ns es q s
    · obtain ⟨h1, h2⟩ := sUpTo_in g
      exact sUpTo_max h1 ((h _).mp h2)
    · have := lo (z := z') (ns := ns') (es := es') (q := q')
      omega
  exact Int.le_antisymm (one h) (one fun k => (h k).symm)
theorem eI_congr (hl : es.length = es'.length) (h : ∀ q, 0 ≤ q → ∀ k, InW z ns es q k ↔ InW z' ns' es' q k) : ∀ q : Nat, eB z ns es q = eB z' ns' es' q
  | 0 => sFrom_congr hl (h 0 (Int.le_refl _))
  | q + 1 => by
    show sFrom z ns es ((q + 1 : Nat) : Int) (eB z ns es q) = sFrom z' ns' es' ((q + 1 : Nat) : Int) (eB z' ns' es' q)
    rw [eI_congr hl h q]
    exact sFrom_congr hl (h _ (by omega))
theorem lI_congr (hl : es.length = es'.length) (ht : topB z es = topB z' es') (h : ∀ q, ∀ k, InW z ns es q k ↔ InW z' ns' es' q k) (q : Int) : lI z ns es q = lI z' ns' es' q := by
  unfold lI
  rw [ht]
  generalize (topB z' es' - q).toNat = n
  induction n with
  | zero =>
    show sUpTo z ns es (topB z' es') (es.length : Int) = sUpTo z' ns' es' (topB z' es') (es'.length : Int)
    rw [hl]
    exact sUpTo_congr (h _)
  | succ n ih =>
    show sUpTo z ns es (topB z' es' - ((n + 1 : Nat) : Int)) (lD z ns es (topB z' es') n) = sUpTo z' ns' es' (topB z' es' - ((n + 1 : Nat) : Int)) (lD z' ns' es' (topB z' es') n)
    rw [ih]
    exact sUpTo_congr (h _)
end
/-! ### one entry more -/
section
variable {z : Int} {ns : List Str} {es : List En} {e : En} {s : Str} {q k : Int}
theorem get_front {i : Nat} {x : En} (h : es[i]? = some x) : (es ++ [e])[i]? = some x := by
  rw [List.getElem?_append_left (List.getElem?_eq_some_iff.mp h).1]
  exact h
theorem SlW.front (h : SlW z (es ++ [e]) s q k) : SlW z es s q (min k (es.length : Int)) := by
  have h0 := h.k0
  refine ⟨by omega, by omega, fun i x hi => h.own i x (get_front hi), fun i x hi hn hq => ?_, fun i x hi hn hq => ?_⟩
  · have := h.lo i x (get_front hi) hn hq
    have := (List.getElem?_eq_some_iff.mp hi).1
    omega
  · have := h.hi i x (get_front hi) hn hq
    omega
theorem inW_front (h : InW z ns (es ++ [e]) q k) : InW z ns es q (min k (es.length : Int)) := by
  obtain ⟨s, hs, h⟩ := inW_iff.mp h
  exact inW_iff.mpr ⟨s, hs, h.front⟩
theorem topB_snoc (hz : 1 ≤ z) (pos : ∀ x ∈ es ++ [e], 0 ≤ x.2) : topB z es ≤ topB z (es ++ [e]) ∧ e.2 / z ≤ topB z (es ++ [e]) := by
  have pos' : ∀ x ∈ es, 0 ≤ x.2 := fun x hx => pos x (List.mem_append_left _ hx)
  refine ⟨?_, topB_le (List.mem_append_right _ (List.mem_singleton.mpr rfl))⟩
  rcases top_mem hz pos' with ⟨rfl, h⟩ | ⟨_, x, hx, h⟩
  · have h1 := topB_le (z := z) (es := [] ++ [e]) (e := e) (by simp)
    have h2 := Int.ediv_nonneg (pos e (by simp)) (show 0 ≤ z by omega)
    omega
  · rw [← h]
    exact topB_le (List.mem_append_left _ hx)
/-- a log that is possible was so before its last entry -/
theorem poss_front (hz : 1 ≤ z) (pos : ∀ x ∈ es ++ [e], 0 ≤ x.2) (h : obsD z ns (es ++ [e]) = .none) : obsD z ns es = .none ∧ (∀ q, 0 ≤ q → q ≤ topB z es → eI z ns es q ≤ eI z ns (es ++ [e]) q ∧ min (lI z ns (es ++ [e]) q) (es.length : Int) ≤ lI z ns es q) := by
  have pos' : ∀ x ∈ es, 0 ≤ x.2 := fun x hx => pos x (List.mem_append_left _ hx)
  obtain ⟨F, P⟩ := (poss_iff hz pos).mp h
  have ht := (topB_snoc hz pos).1
  have up : ∀ q, 0 ≤ q → q < topB z es → min (eI z ns (es ++ [e]) q) (es.length : Int) ≤ min (eI z ns (es ++ [e]) (q + 1)) (es.length : Int) := fun q h0 h1 => by
    have := eI_up (z := z) (ns := ns) (es := es ++ [e]) h0
    omega
  have hE : ∀ q, 0 ≤ q → q ≤ topB z es → eI z ns es q ≤ min (eI z ns (es ++ [e]) q) (es.length : Int) := fun q h0 h1 =>
    e_least' (g := fun q => min (eI z ns (es ++ [e]) q) (es.length : Int)) (f := topB z es) (by
      have := eI_pos (z := z) (ns := ns) (es := es ++ [e]) (q := 0)
      show 0 ≤ min _ _
      omega) up (fun q h0 h1 => inW_front (eI_in P h0 (by omega))) h0 h1
  have P' : ∀ q, 0 ≤ q → q ≤ topB z es → eI z ns es q ≤ (es.length : Int) := fun q h0 h1 => by have := hE q h0 h1; omega
  refine ⟨(poss_iff hz pos').mpr ⟨fine_front F, P'⟩, fun q h0 h1 => ⟨by have := hE q h0 h1; omega, ?_⟩⟩
  exact l_most' (g := fun q => min (lI z ns (es ++ [e]) q) (es.length : Int)) (fun q h0 h1 => by
    have := lI_up P h0 (show q < topB z (es ++ [e]) by omega)
    show min _ _ ≤ min _ _
    omega) (fun q h0 h1 => inW_front (lI_in P h0 (by omega))) h0 h1
theorem right_front {th : Thing} (h : Right z ns es th) (hp : ∀ st, th ≠ .pushed st) : Right z ns (es ++ [e]) th := by
  cases th with
  | two w i j =>
    obtain ⟨h1, x, y, h2, h3, h4⟩ := h
    exact ⟨h1, x, y, get_front h2, get_front h3, h4⟩
  | pushed st => exact absurd rfl (hp st)
/-- an entry of a new far block keeps a log possible -/
theorem poss_far (hz : 1 ≤ z) (pos : ∀ x ∈ es ++ [e], 0 ≤ x.2) (hs : e.1 ∈ ns) (hf : topB z es < e.2 / z) (h : obsD z ns es = .none) : obsD z ns (es ++ [e]) = .none := by
  have pos' : ∀ x ∈ es, 0 ≤ x.2 := fun x hx => pos x (List.mem_append_left _ hx)
  obtain ⟨F, P⟩ := (poss_iff hz pos').mp h
  have big : ∀ x ∈ es, x.2 / z < e.2 / z := fun x hx => by
    have := topB_le (z := z) hx
    omega
  have less : ∀ x ∈ es, x.2 < e.2 := fun x hx => by
    by_cases g : e.2 ≤ x.2
    · have := Int.ediv_le_ediv (show 0 < z by omega) g
      have := big x hx
      omega
    · omega
  refine (poss_iff hz pos).mpr ⟨fine_snoc.mpr ⟨F, fun x hx => ⟨by have := less x hx; omega, fun g => by have := big x hx; omega, fun _ => by have := less x hx; omega⟩⟩, fun q h0 h1 => ?_⟩
  have top : topB z (es ++ [e]) = e.2 / z := topB_of hz pos ⟨e, by simp, rfl⟩ fun x hx => by
    rcases List.mem_append.mp hx with g | g
    · have := big x g
      omega
    · rw [List.mem_singleton.mp g]
      exact Int.le_refl _
  have hP : ∀ q, 0 ≤ q → q ≤ topB z es → InW z ns (es ++ [e]) q (eI z ns es q) := fun q h0 h1 => by
    obtain ⟨s, hs', w⟩ := inW_iff.mp (eI_in P h0 h1)
    refine inW_iff.mpr ⟨s, hs', w.k0, by have := w.k1; rw [List.length_append, List.length_singleton]; omega, fun i x hi hq => ?_, fun i x hi hn hq => ?_, fun i x hi hn hq => ?_⟩
    · rcases snoc_get hi with g | ⟨_, rfl⟩
      · exact w.own i x g hq
      · omega
    · rcases snoc_get hi with g | ⟨_, rfl⟩
      · exact w.lo i x g hn hq
      · omega
    · rcases snoc_get hi with g | ⟨rfl, rfl⟩
      · exact w.hi i x g hn hq
      · exact w.k1
  have hN : ∀ q, topB z es < q → q ≤ e.2 / z → InW z ns (es ++ [e]) q (es.length : Int) := fun q h0 h1 => by
    refine inW_iff.mpr ⟨e.1, hs, by omega, by rw [List.length_append, List.length_singleton]; omega, fun i x hi hq => ?_, fun i x hi hn hq => ?_, fun i x hi hn hq => ?_⟩
    · rcases snoc_get hi with g | ⟨_, rfl⟩
      · have := topB_le (z := z) (List.mem_of_getElem? g)
        omega
      · rfl
    · rcases snoc_get hi with g | ⟨_, rfl⟩
      · have := (List.getElem?_eq_some_iff.mp g).1
        omega
      · omega
    · rcases snoc_get hi with g | ⟨rfl, rfl⟩
      · have := topB_le (z := z) (List.mem_of_getElem? g)
        omega
      · exact Int.le_refl _
  have hE := e_least' (z := z) (ns := ns) (es := es ++ [e]) (g := fun q => if q ≤ topB z es then eI z ns es q else (es.length : Int)) (f := e.2 / z) (by
    show 0 ≤ (if (0 : Int) ≤ topB z es then _ else _)
    split
    · exact eI_pos
    · omega) (fun q h0 h1 => by
    show (if q ≤ topB z es then eI z ns es q else (es.length : Int)) ≤ (if q + 1 ≤ topB z es then eI z ns es (q + 1) else (es.length : Int))
    by_cases g : q + 1 ≤ topB z es
    · rw [if_pos g, if_pos (by omega)]
      exact eI_up h0
    · rw [if_neg g]
      by_cases g2 : q ≤ topB z es
      · rw [if_pos g2]
        exact P q h0 g2
      · rw [if_neg g2]
        exact Int.le_refl _) (fun q h0 h1 => by
    show InW z ns (es ++ [e]) q (if q ≤ topB z es then eI z ns es q else (es.length : Int))
    by_cases g : q ≤ topB z es
    · rw [if_pos g]
      exact hP q h0 g
    · rw [if_neg g]
      exact hN q (by omega) h1) h0 (by omega)
  have : (if q ≤ topB z es then eI z ns es q else (es.length : Int)) ≤ (es.length : Int) := by
    split
    · exact P q h0 (by assumption)
    · exact Int.le_refl _
  rw [List.length_append, List.length_singleton]
  omega
end
/-! ### more servers -/
section
variable {z : Int} {ns ns' : List Str} {es : List En} {q : Int}
theorem inW_more (h : ∀ s ∈ ns, s ∈ ns') {k : Int} (g : InW z ns es q k) : InW z ns' es q k := by
  obtain ⟨s, hs, w⟩ := inW_iff.mp g
  exact inW_iff.mpr ⟨s, h s hs, w⟩
theorem poss_more (hz : 1 ≤ z) (pos : ∀ x ∈ es, 0 ≤ x.2) (h : ∀ s ∈ ns, s ∈ ns') (g : obsD z ns es = .none) : obsD z ns' es = .none ∧ ∀ q, 0 ≤ q → q ≤ topB z es → eI z ns' es q ≤ eI z ns es q ∧ lI z ns es q ≤ lI z ns' es q := by
  obtain ⟨F, P⟩ := (poss_iff hz pos).mp g
  have hE : ∀ q, 0 ≤ q → q ≤ topB z es → eI z ns' es q ≤ eI z ns es q := fun q h0 h1 => e_least' (f := topB z es) eI_pos (fun q h0 _ => eI_up h0) (fun q h0 h1 => inW_more h (eI_in P h0 h1)) h0 h1
  exact ⟨(poss_iff hz pos).mpr ⟨F, fun q h0 h1 => Int.le_trans (hE q h0 h1) (P q h0 h1)⟩, fun q h0 h1 => ⟨hE q h0 h1, l_most' (fun q h0 h1 => lI_up P h0 h1) (fun q h0 h1 => inW_more h (lI_in P h0 h1)) h0 h1⟩⟩
end
/-! ### other names -/
def renE (r : Str → Str) (e : En) : En := (r e.1, e.2)
/-- names, one for one -/
structure Ren (ns ns' : List Str) (r : Str → Str) : Prop where
  inj : ∀ a ∈ ns, ∀ b ∈ ns, r a = r b → a = b
  mem : ∀ x, x ∈ ns' ↔ ∃ a ∈ ns, r a = x
section
variable {z : Int} {ns ns' : List Str} {es : List En} {r : Str → Str} {q k : Int} {s : Str}
theorem slW_ren (R : Ren ns ns' r) (hn : ∀ e ∈ es, e.1 ∈ ns) (hs : s ∈ ns) : SlW z (es.map (renE r)) (r s) q k ↔ SlW z es s q k := by
  have get : ∀ (i : Nat) x, (es.map (renE r))[i]? = some x ↔ ∃ e, es[i]? = some e ∧ renE r e = x := fun i x => by
    rw [List.getElem?_map]
    exact Option.map_eq_some_iff
  have nm : ∀ (i : Nat) e, es[i]? = some e → (r e.1 = r s ↔ e.1 = s) := fun i e hi => ⟨fun h => R.inj _ (hn e (List.mem_of_getElem? hi)) _ hs h, fun h => by rw [h]⟩
  constructor
  · rintro ⟨k0, k1, own, lo, hi⟩
    rw [List.length_map] at k1
    exact ⟨k0, k1, fun i e h hq => (nm i e h).mp (own i _ ((get i _).mpr ⟨e, h, rfl⟩) hq), fun i e h g hq => lo i _ ((get i _).mpr ⟨e, h, rfl⟩) ((nm i e h).mpr g) hq, fun i e h g hq => hi i _ ((get i _).mpr ⟨e, h, rfl⟩) ((nm i e h).mpr g) hq⟩
  · rintro ⟨k0, k1, own, lo, hi⟩
    refine ⟨k0, by rw [List.length_map]; exact k1, fun i x h hq => ?_, fun i x h g hq => ?_, fun i x h g hq => ?_⟩
    · obtain ⟨e, h1, rfl⟩ := (get i x).mp h
      exact (nm i e h1).mpr (own i e h1 hq)
    · obtain ⟨e, h1, rfl⟩ := (get i x).mp h
      exact lo i e h1 ((nm i e h1).mp g) hq
    · obtain ⟨e, h1, rfl⟩ := (get i x).mp h
      exact hi i e h1 ((nm i e h1).mp g) hq
theorem inW_ren (R : Ren ns ns' r) (hn : ∀ e ∈ es, e.1 ∈ ns) : InW z ns es q k ↔ InW z ns' (es.map (renE r)) q k := by
  rw [inW_iff, inW_iff]
  constructor
  · rintro ⟨s, hs, w⟩
    exact ⟨r s, (R.mem _).mpr ⟨s, hs, rfl⟩, (slW_ren R hn hs).mpr w⟩
  · rintro ⟨x, hx, w⟩
    obtain ⟨s, hs, rfl⟩ := (R.mem x).mp hx
    exact ⟨s, hs, (slW_ren R hn hs).mp w⟩
theorem topB_ren : topB z (es.map (renE r)) = topB z es := by
  show maxDf (-1) ((es.map (renE r)).map fun e => e.2 / z) = _
  rw [List.map_map]
  rfl
theorem fine_ren (R : Ren ns ns' r) (hn : ∀ e ∈ es, e.1 ∈ ns) : Fine z (es.map (renE r)) ↔ Fine z es := by
  have nm : ∀ e ∈ es, ∀ f ∈ es, (r e.1 = r f.1 ↔ e.1 = f.1) := fun e he f hf => ⟨fun h => R.inj _ (hn e he) _ (hn f hf) h, fun h => by rw [h]⟩
  constructor
  · rintro ⟨a, b, c⟩
    rw [List.pairwise_map] at a b c
    exact ⟨a, b.imp_of_mem fun {x y} hx hy h g => (nm x hx y hy).mp (h g), c.imp_of_mem fun {x y} hx hy h g => h ((nm x hx y hy).mpr g)⟩
  · rintro ⟨a, b, c⟩
    refine ⟨?_, ?_, ?_⟩ <;> rw [List.pairwise_map]
    · exact a
    · exact b.imp_of_mem fun {x y} hx hy h g => (nm x hx y hy).mpr (h g)
    · exact c.imp_of_mem fun {x y} hx hy h g => h ((nm x hx y hy).mp g)
theorem sFrom_ren (R : Ren ns ns' r) (hn : ∀ e ∈ es, e.1 ∈ ns) {t : Int} : sFrom z ns' (es.map (renE r)) q t = sFrom z ns es q t := sFrom_congr (by rw [List.length_map]) fun k => (inW_ren R hn).symm
theorem eI_ren (R : Ren ns ns' r) (hn : ∀ e ∈ es, e.1 ∈ ns) : eI z ns' (es.map (renE r)) q = eI z ns es q := eI_congr (by rw [List.length_map]) (fun q _ k => (inW_ren R hn).symm) _
theorem lI_ren (R : Ren ns ns' r) (hn : ∀ e ∈ es, e.1 ∈ ns) : lI z ns' (es.map (renE r)) q = lI z ns es q := lI_congr (by rw [List.length_map]) topB_ren (fun q k => (inW_ren R hn).symm) _
theorem poss_ren (R : Ren ns ns' r) (hn : ∀ e ∈ es, e.1 ∈ ns) (hz : 1 ≤ z) (pos : ∀ x ∈ es, 0 ≤ x.2) : obsD z ns' (es.map (renE r)) = .none ↔ obsD z ns es = .none := by
  have pos' : ∀ x ∈ es.map (renE r), 0 ≤ x.2 := fun x hx => by
    obtain ⟨e, he, rfl⟩ := List.mem_map.mp hx
    exact pos e he
  rw [poss_iff hz pos', poss_iff hz pos, fine_ren R hn, topB_ren, List.length_map]
  have hE : ∀ q, eI z ns' (es.map (renE r)) q = eI z ns es q := fun q => eI_ren R hn
  simp only [hE]
theorem winO_ren (R : Ren ns ns' r) (hn : ∀ e ∈ es, e.1 ∈ ns) (hs : s ∈ ns) : winO z (es.map (renE r)) (r s) q = winO z es s q := by
  have nm : ∀ e ∈ es, (r e.1 = r s ↔ e.1 = s) := fun e he => ⟨fun h => R.inj _ (hn e he) _ hs h, fun h => by rw [h]⟩
  have h1 : ∀ es : List En, (∀ e ∈ es, (r e.1 = r s ↔ e.1 = s)) → (hold z (es.map (renE r)) q).any (fun x => x != r s) = (hold z es q).any (fun x => x != s) := by
    intro es
    induction es with
    | nil => intro _; rfl
    | cons e es ih =>
      intro h
      have ih := ih fun x hx => h x (List.mem_cons_of_mem _ hx)
      have he := h e List.mem_cons_self
      rw [List.map_cons, hold_cons, hold_cons]
      show ((if e.2 / z = q then r e.1 :: hold z (es.map (renE r)) q else hold z (es.map (renE r)) q).any fun x => x != r s) = _
      by_cases g : e.2 / z = q
      · rw [if_pos g, if_pos g, List.any_cons, List.any_cons, ih]
        congr 1
        by_cases k : e.1 = s
        · simp [k]
        · have : ¬ r e.1 = r s := fun w => k (he.mp w)
          rw [show (r e.1 != r s) = true from bne_iff_ne.mpr this, show (e.1 != s) = true from bne_iff_ne.mpr k]
      · rw [if_neg g, if_neg g, ih]
  have h2 : ∀ (es : List En) (k : Nat), (∀ e ∈ es, (r e.1 = r s ↔ e.1 = s)) → plc z (r s) k (es.map (renE r)) = plc z s k es := by
    intro es
    induction es with
    | nil => intro k _; rfl
    | cons e es ih =>
      intro k h
      have ih := ih (k + 1) fun x hx => h x (List.mem_cons_of_mem _ hx)
      have he := h e List.mem_cons_self
      rw [List.map_cons, plc_cons, plc_cons, ih]
      by_cases g : e.1 = s
      · rw [if_pos g, if_pos (show (renE r e).1 = r s from he.mpr g)]
        rfl
      · rw [if_neg g, if_neg (show ¬ (renE r e).1 = r s from fun w => g (he.mp w))]
  unfold NbM.winO
  rw [h1 es nm, h2 es 0 nm, List.length_map]
theorem right_ren (R : Ren ns ns' r) (hn : ∀ e ∈ es, e.1 ∈ ns) {th : Thing} (h : Right z ns es th) : Right z ns' (es.map (renE r)) th := by
  cases th with
  | two w i j =>
    obtain ⟨h1, e, g, h2, h3, h4⟩ := h
    have nm : (r e.1 = r g.1 ↔ e.1 = g.1) := ⟨fun h => R.inj _ (hn e (List.mem_of_getElem? h2)) _ (hn g (List.mem_of_getElem? h3)) h, fun h => by rw [h]⟩
    refine ⟨h1, renE r e, renE r g, by rw [List.getElem?_map, h2]; rfl, by rw [List.getElem?_map, h3]; rfl, ?_⟩
    rcases h4 with ⟨w1, h5⟩ | ⟨w1, h5, h6⟩ | ⟨w1, h5, h6⟩
    · exact .inl ⟨w1, h5⟩
    · exact .inr (.inl ⟨w1, fun k => h5 (nm.mp k), h6⟩)
    · exact .inr (.inr ⟨w1, nm.mpr h5, h6⟩)
  | pushed st =>
    obtain ⟨h1, h2, h3⟩ := h
    refine ⟨(fine_ren R hn).mpr h1, ?_, h3⟩
    have key : ∀ (st : List (Int × Int)) (low s : Int), SOk z ns es low s st → SOk z ns' (es.map (renE r)) low s st := by
      intro st
      induction st with
      | nil =>
        intro low s h
        show s = ((es.map (renE r)).length : Int) + 1
        rw [List.length_map]
        exact h
      | cons p t ih =>
        rintro low s ⟨k1, ⟨e, ke, k2⟩, k3, k4, k5, k6⟩
        exact ⟨k1, ⟨renE r e, List.mem_map_of_mem ke, k2⟩, k3, by rw [List.length_map]; exact k4, by rw [sFrom_ren R hn, k5], ih _ _ k6⟩
    exact key st _ _ h2
end
end NbO

set_option Elab.async false
set_option linter.all false
set_option maxRecDepth 100000
set_option maxHeartbeats 4000000
/-! The law's walks over marks: what they find is e and l. What a story's takes say of e and l. -/
namespace NbA
open PySem PySem.Spec PyProof.Rows L2 Nb NbE NbS NbF NbP NbK NbL NbX NbW NbZ NbM NbQ NbC NbG NbH NbI NbJ NbO
section
variable {z : Int} {ns : List Str} {es : List En} {q q' m part : Int}
theorem mem_marks (hz : 1 ≤ z) (pos : ∀ e ∈ es, 0 ≤ e.2) : m ∈ marks z es ↔ 0 ≤ m ∧ ∃ e ∈ es, m = e.2 / z ∨ m = e.2 / z - 1 := by
  rw [show m ∈ marks z es ↔ _ from (marksG_ok (seen z es) 0 (lt_seen z es) (seen_pos hz pos)).2 m]
  constructor
  · rintro ⟨h, b, hb, hm⟩
    obtain ⟨e, he, rfl⟩ := (mem_seen z b es).mp hb
    exact ⟨h, e, he, hm⟩
  · rintro ⟨h, e, he, hm⟩
    exact ⟨h, _, (mem_seen z _ es).mpr ⟨e, he, rfl⟩, hm⟩
theorem lt_marks (hz : 1 ≤ z) (pos : ∀ e ∈ es, 0 ≤ e.2) : (marks z es).Pairwise (· < ·) := (marksG_ok (seen z es) 0 (lt_seen z es) (seen_pos hz pos)).1
theorem mark_top (hz : 1 ≤ z) (pos : ∀ e ∈ es, 0 ≤ e.2) (h : m ∈ marks z es) : 0 ≤ m ∧ m ≤ topB z es := by
  obtain ⟨h0, e, he, hm⟩ := (mem_marks hz pos).mp h
  have := topB_le (z := z) he
  omega
theorem no_seen (hz : 1 ≤ z) (pos : ∀ e ∈ es, 0 ≤ e.2) (hn : ∀ m ∈ marks z es, q < m → q' ≤ m) (hm : q' ∈ marks z es) (h : q + 1 < q') (h0 : -1 ≤ q) : (∀ e ∈ es, e.2 / z < q + 1 ∨ q' + 1 ≤ e.2 / z) ∧ ∃ e ∈ es, e.2 / z = q' + 1 := by
  have key : ∀ e ∈ es, e.2 / z < q + 1 ∨ q' + 1 ≤ e.2 / z := fun e he => by
    refine Classical.byContradiction fun g => ?_
    have h1 := hn (e.2 / z) ((mem_marks hz pos).mpr ⟨by omega, e, he, .inl rfl⟩) (by omega)
    have h2 := hn (e.2 / z - 1) ((mem_marks hz pos).mpr ⟨by omega, e, he, .inr rfl⟩) (by omega)
    omega
  refine ⟨key, ?_⟩
  obtain ⟨_, e, he, hq⟩ := (mem_marks hz pos).mp hm
  have := key e he
  exact ⟨e, he, by omega⟩
theorem fwd (hz : 1 ≤ z) (pos : ∀ e ∈ es, 0 ≤ e.2) (P : ∀ q, 0 ≤ q → q ≤ topB z es → eI z ns es q ≤ (es.length : Int)) (hn : ∀ m ∈ marks z es, q < m → q' ≤ m) (hm : q' ∈ marks z es) (h : q < q') (h0 : -1 ≤ q) : sFrom z ns es q' (pI z ns es (q + 1)) = eI z ns es q' := by
  have hmt := mark_top hz pos hm
  by_cases e : q' = q + 1
  · rw [← e, ← eI_eq hmt.1]
  · obtain ⟨k, _⟩ := no_seen hz pos hn hm (by omega) h0
    rw [sFrom_wins (wins_gap k (by omega) (by omega) : _ = wins z es ns (q + 1)), ← eI_eq (by omega), gap_e' k (by omega) (P _ (by omega) (by omega)) (q := q') (by omega) (by omega)]
theorem bwd (hz : 1 ≤ z) (pos : ∀ e ∈ es, 0 ≤ e.2) (P : ∀ q, 0 ≤ q → q ≤ topB z es → eI z ns es q ≤ (es.length : Int)) (hn : ∀ m ∈ marks z es, q < m → q' ≤ m) (hm : q' ∈ marks z es) (h : q < q') (h0 : 0 ≤ q) : sUpTo z ns es q (lI z ns es q') = lI z ns es q := by
  have hmt := mark_top hz pos hm
  by_cases e : q' = q + 1
  · rw [e, ← lI_eq (by omega)]
  · obtain ⟨k, x, hx, hxe⟩ := no_seen hz pos hn hm (by omega) (by omega)
    have ht := topB_le (z := z) hx
    rw [lI_eq (q := q) (by omega), gap_l' P k (by omega) (by omega) (q := q') (by omega) (by omega), gap_l' P k (by omega) (by omega) (q := q + 1) (by omega) (by omega)]
/-- the first mark from a block on tells that block's e and l -/
theorem due_e (hz : 1 ≤ z) (pos : ∀ e ∈ es, 0 ≤ e.2) (P : ∀ q, 0 ≤ q → q ≤ topB z es → eI z ns es q ≤ (es.length : Int)) (h0 : 0 ≤ part) (hm : m ∈ marks z es) (hp : part ≤ m) (hn : ∀ k ∈ marks z es, part ≤ k → m ≤ k) : eI z ns es m = eI z ns es part := by
  have hmt := mark_top hz pos hm
  by_cases e : m = part
  · rw [e]
  · obtain ⟨k, _⟩ := no_seen (q := part - 1) hz pos (fun k hk h => hn k hk (by omega)) hm (by omega) (by omega)
    exact gap_e' (f := part) (b := m + 1) (fun x hx => by have := k x hx; omega) h0 (P _ h0 (by omega)) hp (by omega)
theorem due_l (hz : 1 ≤ z) (pos : ∀ e ∈ es, 0 ≤ e.2) (P : ∀ q, 0 ≤ q → q ≤ topB z es → eI z ns es q ≤ (es.length : Int)) (h0 : 0 ≤ part) (hm : m ∈ marks z es) (hp : part ≤ m) (hn : ∀ k ∈ marks z es, part ≤ k → m ≤ k) : lI z ns es m = lI z ns es part := by
  have hmt := mark_top hz pos hm
  by_cases e : m = part
  · rw [e]
  · obtain ⟨k, x, hx, hxe⟩ := no_seen (q := part - 1) hz pos (fun k hk h => hn k hk (by omega)) hm (by omega) (by omega)
    have ht := topB_le (z := z) hx
    have k' : ∀ e ∈ es, e.2 / z < part ∨ m + 1 ≤ e.2 / z := fun x hx => by have := k x hx; omega
    rw [gap_l' P k' h0 (by omega) (q := m) hp (by omega), gap_l' P k' h0 (by omega) (q := part) (by omega) (by omega)]
theorem walkN_fwd (hz : 1 ≤ z) (pos : ∀ e ∈ es, 0 ≤ e.2) (P : ∀ q, 0 ≤ q → q ≤ topB z es → eI z ns es q ≤ (es.length : Int)) : ∀ (qs : List Int) (q : Int), -1 ≤ q → qs.Pairwise (· < ·) → (∀ x ∈ qs, q < x) → (∀ m ∈ marks z es, q < m → m ∈ qs) → (∀ x ∈ qs, x ∈ marks z es) →
    walkN (sFrom z ns es) (es.length : Int) (some (pI z ns es (q + 1))) qs = qs.map fun x => some (eI z ns es x)
  | [], _, _, _, _, _, _ => rfl
  | x :: r, q, h0, hp, hl, hi, hm => by
    obtain ⟨p1, p2⟩ := List.pairwise_cons.mp hp
    have hx := hm x List.mem_cons_self
    have hxt := mark_top hz pos hx
    have hqx := hl x List.mem_cons_self
    have f := fwd (ns := ns) hz pos P (q := q) (q' := x) (fun m hmm h => by
      rcases List.mem_cons.mp (hi m hmm h) with rfl | g
      · exact Int.le_refl _
      · have := p1 m g
        omega) hx hqx h0
    have hle := P x hxt.1 hxt.2
    show (if (es.length : Int) < sFrom z ns es x (pI z ns es (q + 1)) then none else some (sFrom z ns es x (pI z ns es (q + 1)))) :: walkN (sFrom z ns es) (es.length : Int) (if (es.length : Int) < sFrom z ns es x (pI z ns es (q + 1)) then none else some (sFrom z ns es x (pI z ns es (q + 1)))) r = _
    rw [f, if_neg (by omega)]
    have ih := walkN_fwd hz pos P r x (by omega) p2 p1 (fun m hmm h => by
      rcases List.mem_cons.mp (hi m hmm (by omega)) with rfl | g
      · omega
      · exact g) (fun y hy => hm y (List.mem_cons_of_mem _ hy))
    rw [pI_succ (by omega)] at ih
    rw [ih]
    rfl
theorem zip_map_self {α β : Type} (f : α → β) : ∀ l : List α, l.zip (l.map f) = l.map fun x => (x, f x)
  | [] => rfl
  | x :: r => by
    show (x, f x) :: r.zip (r.map f) = _
    rw [zip_map_self f r]
    rfl
theorem lwalk_eq (hz : 1 ≤ z) (pos : ∀ e ∈ es, 0 ≤ e.2) (h : obsD z ns es = .none) : lwalk z ns es = (marks z es).map fun x => (x, some (eI z ns es x)) := by
  have P := ((poss_iff hz pos).mp h).2
  have w := walkN_fwd (ns := ns) hz pos P (marks z es) (-1) (by omega) (lt_marks hz pos) (fun x hx => by have := mark_top hz pos hx; omega) (fun m hm _ => hm) (fun x hx => hx)
  unfold lwalk
  rw [show pI z ns es (-1 + 1) = 0 from rfl] at w
  rw [w]
  exact zip_map_self _ _
theorem rev_next {l : List Int} (hp : l.Pairwise (· < ·)) {i : Nat} (h : l.reverse[i]? = some q) (h' : l.reverse[i + 1]? = some q') : q' < q ∧ ∀ m ∈ l, q' < m → q ≤ m := by
  have hr : l.reverse.Pairwise fun a b => b < a := List.pairwise_reverse.mpr hp
  obtain ⟨hi, h⟩ := List.getElem?_eq_some_iff.mp h
  obtain ⟨hj, h'⟩ := List.getElem?_eq_some_iff.mp h'
  have lt := List.pairwise_iff_getElem.mp hr
  refine ⟨?_, fun m hm hq => ?_⟩
  · rw [← h, ← h']
    exact lt i (i + 1) hi hj (by omega)
  · obtain ⟨k, hk, rfl⟩ := List.mem_iff_getElem.mp (List.mem_reverse.mpr hm)
    rcases (by omega : k < i ∨ k = i ∨ k = i + 1 ∨ i + 1 < k) with g | rfl | rfl | g
    · have := lt k i hk hi g
      omega
    · omega
    · omega
    · have := lt (i + 1) k hj hk g
      omega
theorem rev_first {l : List Int} (hp : l.Pairwise (· < ·)) (h : l.reverse[0]? = some q) : ∀ m ∈ l, m ≤ q := fun m hm => by
  have hr : l.reverse.Pairwise fun a b => b < a := List.pairwise_reverse.mpr hp
  obtain ⟨hi, h⟩ := List.getElem?_eq_some_iff.mp h
  obtain ⟨k, hk, rfl⟩ := List.mem_iff_getElem.mp (List.mem_reverse.mpr hm)
  rcases (by omega : k = 0 ∨ 0 < k) with rfl | g
  · omega
  · have := List.pairwise_iff_getElem.mp hr 0 k hi hk g
    omega
theorem top_mark (hz : 1 ≤ z) (pos : ∀ e ∈ es, 0 ≤ e.2) (h : 0 ≤ topB z es) : topB z es ∈ marks z es := by
  rcases top_mem hz pos with ⟨_, h2⟩ | ⟨_, e, he, h2⟩
  · omega
  · exact (mem_marks hz pos).mpr ⟨h, e, he, .inl h2.symm⟩
/-- the first of the law's backward walk -/
theorem bwd0 (hz : 1 ≤ z) (pos : ∀ e ∈ es, 0 ≤ e.2) (h : (marks z es).reverse[0]? = some q) : sUpTo z ns es q (es.length : Int) = lI z ns es q := by
  have hm : q ∈ marks z es := List.mem_reverse.mp (List.mem_of_getElem? h)
  have ht := mark_top hz pos hm
  have h2 := rev_first (lt_marks hz pos) h _ (top_mark hz pos (by omega))
  rw [show q = topB z es by omega, lI_top]
theorem candU_app (s : Int) (ws us : List (Int × Int)) : candU s (ws ++ us) = candU s ws ++ candU s us := by
  unfold candU
  rw [List.filter_append, List.map_append]
theorem min_if (a b : Int) : (if a < b then a else b) = min a b := by split <;> omega
/-- the first of the rows from a block on -/
def rowsF (z : Int) (es : List En) (F : Int → Int) : List (Int × Int) := (marks z es).map fun q => (q, F q)
def dueL (rows : List (Int × Int)) (part : Int) : Option Int := ((rows.filter fun r => decide (part ≤ r.1)).map fun r => r.2).head?
theorem due_first {F : Int → Int} : ∀ {l : List Int}, l.Pairwise (· < ·) → (∃ m ∈ l, part ≤ m) → ∃ m ∈ l, part ≤ m ∧ (∀ k ∈ l, part ≤ k → m ≤ k) ∧ dueL (l.map fun q => (q, F q)) part = some (F m)
  | [], _, h => by
    obtain ⟨m, hm, _⟩ := h
    cases hm
  | x :: r, hp, h => by
    obtain ⟨p1, p2⟩ := List.pairwise_cons.mp hp
    by_cases g : part ≤ x
    · refine ⟨x, List.mem_cons_self, g, fun k hk _ => ?_, ?_⟩
      · rcases List.mem_cons.mp hk with rfl | hk
        · exact Int.le_refl _
        · have := p1 k hk
          omega
      · unfold dueL
        rw [List.map_cons, List.filter_cons_of_pos (by simpa using g)]
        rfl
    · obtain ⟨m, hm, h1, h2, h3⟩ := due_first (F := F) p2 (by
        obtain ⟨m, hm, h1⟩ := h
        rcases List.mem_cons.mp hm with rfl | hm
        · exact absurd h1 g
        · exact ⟨m, hm, h1⟩)
      refine ⟨m, List.mem_cons_of_mem _ hm, h1, fun k hk hk2 => ?_, ?_⟩
      · rcases List.mem_cons.mp hk with rfl | hk
        · exact absurd hk2 g
        · exact h2 k hk hk2
      · unfold dueL at h3 ⊢
        rw [List.map_cons, List.filter_cons_of_neg (by simpa using g)]
        exact h3
theorem due_rows_e (hz : 1 ≤ z) (pos : ∀ e ∈ es, 0 ≤ e.2) (P : ∀ q, 0 ≤ q → q ≤ topB z es → eI z ns es q ≤ (es.length : Int)) (h0 : 0 ≤ part) (h1 : part ≤ topB z es) : dueL (rowsF z es (eI z ns es)) part = some (eI z ns es part) := by
  obtain ⟨m, hm, h2, h3, h4⟩ := due_first (F := eI z ns es) (lt_marks hz pos) ⟨_, top_mark hz pos (by omega), h1⟩
  rw [show dueL (rowsF z es (eI z ns es)) part = _ from h4, due_e hz pos P h0 hm h2 h3]
theorem due_rows_l (hz : 1 ≤ z) (pos : ∀ e ∈ es, 0 ≤ e.2) (P : ∀ q, 0 ≤ q → q ≤ topB z es → eI z ns es q ≤ (es.length : Int)) (h0 : 0 ≤ part) (h1 : part ≤ topB z es) : dueL (rowsF z es (lI z ns es)) part = some (lI z ns es part) := by
  obtain ⟨m, hm, h2, h3, h4⟩ := due_first (F := lI z ns es) (lt_marks hz pos) ⟨_, top_mark hz pos (by omega), h1⟩
  rw [show dueL (rowsF z es (lI z ns es)) part = _ from h4, due_l hz pos P h0 hm h2 h3]
theorem len_marks (z : Int) (es : List En) : (marks z es).length ≤ 2 * es.length := by
  have h1 := len_seen z es
  have h2 := len_marksG (seen z es) 0
  show (marksG 0 (seen z es)).length ≤ _
  omega
theorem lI_mono (P : ∀ q, 0 ≤ q → q ≤ topB z es → eI z ns es q ≤ (es.length : Int)) (h0 : 0 ≤ q) (h : q ≤ q') (ht : q' ≤ topB z es) : lI z ns es q ≤ lI z ns es q' := by
  have key : ∀ k : Nat, q + k ≤ topB z es → lI z ns es q ≤ lI z ns es (q + k) := fun k => by
    induction k with
    | zero => intro _; rw [show q + ((0 : Nat) : Int) = q by omega]; exact Int.le_refl _
    | succ k ih =>
      intro hk
      have h1 := ih (by omega)
      have h2 := lI_up P (q := q + k) (by omega) (by omega)
      rw [show q + ((k + 1 : Nat) : Int) = q + k + 1 by omega]
      exact Int.le_trans h1 h2
  have := key (q' - q).toNat (by omega)
  rwa [show q + ((q' - q).toNat : Int) = q' by omega] at this
/-! ### takes -/
theorem tale_top {tk : List Take} {fr : Int} (hz : 1 ≤ z) (pos : ∀ e ∈ es, 0 ≤ e.2) (T : Tale z es tk fr) (h0 : 0 ≤ q) (h : q ≤ topB z es) : q < fr := by
  rcases top_mem hz pos with ⟨_, h2⟩ | ⟨_, e, he, h2⟩
  · omega
  · obtain ⟨k, hk⟩ := List.mem_iff_getElem?.mp he
    obtain ⟨t, ht, _, hb, _⟩ := T.own k e hk
    have := (T.rng t ht).2.2
    omega
theorem tale_el {tk : List Take} {fr : Int} (hz : 1 ≤ z) (pos : ∀ e ∈ es, 0 ≤ e.2) (T : Tale z es tk fr) (hn : ∀ t ∈ tk, t.n ∈ ns) {t : Take} (ht : t ∈ tk) (h1 : t.a ≤ q) (h2 : q ≤ t.b) (hq : q ≤ topB z es) : eI z ns es q ≤ (t.s : Int) ∧ (t.s : Int) ≤ lI z ns es q := by
  have h0 : 0 ≤ q := by have := (T.rng t ht).1; omega
  let g : Int → Int := fun q => if h : 0 ≤ q ∧ q < fr then (((T.cov q h.1 h.2).choose.s : Nat) : Int) else 0
  have ga : ∀ (x : Int) (u : Take), u ∈ tk → u.a ≤ x → x ≤ u.b → g x = (u.s : Int) := fun x u hu a1 a2 => by
    have r := T.rng u hu
    have hx : 0 ≤ x ∧ x < fr := ⟨by omega, by omega⟩
    have hs := (T.cov x hx.1 hx.2).choose_spec
    show (if h : 0 ≤ x ∧ x < fr then (((T.cov x h.1 h.2).choose.s : Nat) : Int) else 0) = _
    rw [dif_pos hx, T.one hs.1 hu hs.2.1 hs.2.2 a1 a2]
  have cov : ∀ x, 0 ≤ x → x ≤ topB z es → ∃ u ∈ tk, u.a ≤ x ∧ x ≤ u.b := fun x x0 x1 => T.cov x x0 (tale_top hz pos T x0 x1)
  have w : ∀ x, 0 ≤ x → x ≤ topB z es → InW z ns es x (g x) := fun x x0 x1 => by
    obtain ⟨u, hu, a1, a2⟩ := cov x x0 x1
    obtain ⟨lo, hi, k1, k2, k3⟩ := T.win hu a1 a2
    rw [ga x u hu a1 a2]
    refine ⟨(lo, hi), ?_, k2, k3⟩
    unfold wins
    exact List.mem_filterMap.mpr ⟨u.n, hn u hu, k1⟩
  have up : ∀ x, 0 ≤ x → x < topB z es → g x ≤ g (x + 1) := fun x x0 x1 => by
    obtain ⟨u, hu, a1, a2⟩ := cov x x0 (by omega)
    obtain ⟨v, hv, b1, b2⟩ := cov (x + 1) (by omega) (by omega)
    rw [ga x u hu a1 a2, ga (x + 1) v hv b1 b2]
    rcases T.same hu hv with rfl | ⟨_, k⟩ | ⟨k, _⟩
    · exact Int.le_refl _
    · exact Int.ofNat_le.mpr k
    · omega
  have g0 : 0 ≤ g 0 := by
    obtain ⟨u, hu, a1, a2⟩ := cov 0 (Int.le_refl _) (by omega)
    rw [ga 0 u hu a1 a2]
    omega
  have r1 := e_least' (f := topB z es) g0 up w h0 hq
  have r2 := l_most' up w h0 hq
  rw [ga q t ht h1 h2] at r1 r2
  exact ⟨r1, r2⟩
end
end NbA

set_option Elab.async false
set_option linter.all false
set_option maxRecDepth 100000
set_option maxHeartbeats 4000000
/-! Owners: the slots at which a server can take a block, what a Reach holds, the promises of its methods and of owners_of, slots_of, sure_owner. -/
namespace NbD
open PySem PySem.Spec PyProof.Rows L2 Nb NbE NbS NbF NbP NbK NbL NbX NbW NbZ NbM NbQ NbC NbG NbH NbI NbJ NbO NbA
/-- the slots at which a server can take a block -/
def slO (z : Int) (ns : List Str) (es : List En) (n : Str) (q : Int) : Option (Int × Int) := (winO z es n q).bind fun w => if max w.1 (eI z ns es q) ≤ min w.2 (lI z ns es q) then some (max w.1 (eI z ns es q), min w.2 (lI z ns es q)) else none
def ownL (z : Int) (ns : List Str) (es : List En) (q : Int) : List Str := ns.filter fun n => (slO z ns es n q).isSome
def spansP (z : Int) (es : List En) : List (Int × Int) := (starts z es).zip (((starts z es).drop 1).map (fun x => x - 1) ++ (starts z es).drop ((starts z es).length - 1))
section
variable {z : Int} {ns : List Str} {es : List En} {q f : Int} {n : Str}
theorem len_spansP : (spansP z es).length = (starts z es).length := by
  unfold spansP
  rw [List.length_zip, List.length_append, List.length_map, List.length_drop, List.length_drop]
  omega
theorem spans_get {i : Nat} {p : Int × Int} (h : (spansP z es)[i]? = some p) : (starts z es)[i]? = some p.1 := by
  unfold spansP at h
  exact (List.getElem?_zip_eq_some.mp h).1
theorem own_some (P : ∀ q, 0 ≤ q → q ≤ topB z es → eI z ns es q ≤ (es.length : Int)) (h0 : 0 ≤ q) (h : q ≤ topB z es) : ownL z ns es q ≠ [] := by
  obtain ⟨p, hp, h1, h2⟩ := eI_in P h0 h
  unfold wins at hp
  obtain ⟨n, hn, hw⟩ := List.mem_filterMap.mp hp
  have hel := e_le_l' P h0 h
  refine List.ne_nil_of_mem (a := n) (List.mem_filter.mpr ⟨hn, ?_⟩)
  unfold slO
  rw [hw]
  show (if max p.1 (eI z ns es q) ≤ min p.2 (lI z ns es q) then some (max p.1 (eI z ns es q), min p.2 (lI z ns es q)) else none).isSome = true
  rw [if_pos (by omega)]
  rfl
/-- the span of a block: its index, and that all is alike in it -/
theorem at_span' (hz : 1 ≤ z) (pos : ∀ e ∈ es, 0 ≤ e.2) (h : obsD z ns es = .none) (h0 : 0 ≤ q) (h1 : q ≤ topB z es) :
    ∃ (i : Nat) (f : Int), ((starts z es).filter fun b => decide (b ≤ q)).length = i + 1 ∧ (starts z es)[i]? = some f ∧ 0 ≤ f ∧ f ≤ q ∧ eI z ns es f = eI z ns es q ∧ lI z ns es f = lI z ns es q ∧ ∀ n, winO z es n f = winO z es n q := by
  obtain ⟨_, P⟩ := (poss_iff hz pos).mp h
  rcases top_mem hz pos with ⟨_, ht⟩ | ⟨_, e, he, ht⟩
  · omega
  · obtain ⟨i, st, g1, g2, g3, g4, g5⟩ := span_at (q := q) (lt_seen z es) (seen_pos hz pos) h0 ⟨e.2 / z, (mem_seen z _ es).mpr ⟨e, he, rfl⟩, by omega⟩
    have g1' : (starts z es)[i]? = some st := g1
    refine ⟨i, st, g2, g1', g3, g4, ?_⟩
    rcases g5 with rfl | ⟨b, hb, hqb, g5⟩
    · exact ⟨rfl, rfl, fun _ => rfl⟩
    · obtain ⟨e', he', hb'⟩ := (mem_seen z b es).mp hb
      have hbt : b ≤ topB z es := hb' ▸ topB_le he'
      have gp : ∀ e ∈ es, e.2 / z < st ∨ b ≤ e.2 / z := fun e he => g5 _ ((mem_seen z _ es).mpr ⟨e, he, rfl⟩)
      refine ⟨(gap_e' gp g3 (P st g3 (by omega)) g4 hqb).symm, ?_, fun n => ?_⟩
      · rw [gap_l' P gp g3 hbt g4 hqb, gap_l' P gp g3 hbt (Int.le_refl _) (by omega)]
      · have := wins_gap (ns := [n]) gp g4 hqb
        unfold wins at this
        rw [List.filterMap_cons, List.filterMap_cons] at this
        cases k1 : winO z es n q <;> cases k2 : winO z es n st <;> rw [k1, k2] at this <;> simp at this
        rw [this]
theorem slO_congr (he : eI z ns es f = eI z ns es q) (hl : lI z ns es f = lI z ns es q) (hw : winO z es n f = winO z es n q) : slO z ns es n f = slO z ns es n q := by
  unfold slO
  rw [he, hl, hw]
theorem ownL_congr (he : eI z ns es f = eI z ns es q) (hl : lI z ns es f = lI z ns es q) (hw : ∀ n, winO z es n f = winO z es n q) : ownL z ns es f = ownL z ns es q := by
  unfold ownL
  congr 1
  funext n
  rw [slO_congr he hl (hw n)]
end
/-! ### what a Reach holds -/
abbrev CR (K : PySem.W.Frag) : Addr := He.ga K "Reach"
def fsR (sg sp fi la : Addr) : List (Str × V) := [("sight", .ref sg), ("spans", .ref sp), ("first_slots", .ref fi), ("last_slots", .ref la)]
structure RF (K : PySem.W.Frag) : Prop where
  cl : Cls K (CR K)
  nS : NoAttr K (CR K) "sight"
  nP : NoAttr K (CR K) "spans"
  nF : NoAttr K (CR K) "first_slots"
  nL : NoAttr K (CR K) "last_slots"
theorem fsR_sight (sg sp fi la : Addr) : (fsR sg sp fi la).lookup ("sight" : Str) = some (.ref sg) := by
  unfold fsR
  rw [List.lookup_cons, show (("sight" : Str) == ("sight" : Str)) = true by decide +kernel]
theorem fsR_spans (sg sp fi la : Addr) : (fsR sg sp fi la).lookup ("spans" : Str) = some (.ref sp) := by
  unfold fsR
  rw [List.lookup_cons, show (("spans" : Str) == ("sight" : Str)) = false by decide +kernel, List.lookup_cons, show (("spans" : Str) == ("spans" : Str)) = true by decide +kernel]
theorem fsR_first (sg sp fi la : Addr) : (fsR sg sp fi la).lookup ("first_slots" : Str) = some (.ref fi) := by
  unfold fsR
  rw [List.lookup_cons, show (("first_slots" : Str) == ("sight" : Str)) = false by decide +kernel, List.lookup_cons, show (("first_slots" : Str) == ("spans" : Str)) = false by decide +kernel, List.lookup_cons, show (("first_slots" : Str) == ("first_slots" : Str)) = true by decide +kernel]
theorem fsR_last (sg sp fi la : Addr) : (fsR sg sp fi la).lookup ("last_slots" : Str) = some (.ref la) := by
  unfold fsR
  rw [List.lookup_cons, show (("last_slots" : Str) == ("sight" : Str)) = false by decide +kernel, List.lookup_cons, show (("last_slots" : Str) == ("spans" : Str)) = false by decide +kernel, List.lookup_cons, show (("last_slots" : Str) == ("first_slots" : Str)) = false by decide +kernel, List.lookup_cons,
    show (("last_slots" : Str) == ("last_slots" : Str)) = true by decide +kernel]
theorem fsR_no {m : Str} (h1 : (m == ("sight" : Str)) = false) (h2 : (m == ("spans" : Str)) = false) (h3 : (m == ("first_slots" : Str)) = false) (h4 : (m == ("last_slots" : Str)) = false) (sg sp fi la : Addr) : (fsR sg sp fi la).lookup m = none := by
  unfold fsR
  rw [List.lookup_cons, h1, List.lookup_cons, h2, List.lookup_cons, h3, List.lookup_cons, h4]
  rfl
def ReachAt (K : PySem.W.Frag) (H : Hp) (r : Addr) (z : Int) (ns : List Str) (es : List En) : Prop :=
  ∃ dx sg sp fi la ts, H r = some (.ins (CR K) dx (fsR sg sp fi la)) ∧ SightAt K H sg z ns es ∧ H sp = some (.lst (ts.map V.ref)) ∧ Prs H ts (spansP z es) ∧ H fi = some (.lst ((earl z ns es).map V.int)) ∧ H la = some (.lst ((late z ns es).map V.int)) ∧ obsD z ns es = .none
theorem ReachAt.same {K : PySem.W.Frag} {H H' : Hp} {r : Addr} {z : Int} {ns : List Str} {es : List En} (h : ReachAt K H r z ns es) (e : Same H H') : ReachAt K H' r z ns es := by
  obtain ⟨dx, sg, sp, fi, la, ts, h1, h2, h3, h4, h5, h6, h7⟩ := h
  exact ⟨dx, sg, sp, fi, la, ts, e _ _ h1, h2.same e, e _ _ h3, h4.imp fun t xs g => e _ _ g, e _ _ h5, e _ _ h6, h7⟩
theorem ReachAt.wf {K : PySem.W.Frag} {H : Hp} {r : Addr} {z : Int} {ns : List Str} {es : List En} (h : ReachAt K H r z ns es) : WF z ns es := by
  obtain ⟨dx, sg, sp, fi, la, ts, h1, ⟨_, _, _, _, _, _, _, _, hw⟩, _⟩ := h
  exact hw
theorem mutI {K : PySem.W.Frag} {H : Hp} {sg p : Addr} {z : Int} {ns : List Str} {es : List En} (h : SightAt K H sg z ns es) {c d : Addr} {f g : List (Str × V)} (hp : H p = some (.ins c d f)) (ne : sg ≠ p) : SightAt K (upd H p (.ins c d g)) sg z ns es := by
  obtain ⟨dx, nl, dh, dp, own, h1, hnl, D, hw⟩ := h
  exact ⟨dx, nl, dh, dp, own, upd_keep h1 ne, upd_keep hnl (ne_of hnl hp (by simp)), D.mutP hp, hw⟩
theorem sight_ne {K : PySem.W.Frag} {H : Hp} {sg p : Addr} {z : Int} {ns : List Str} {es : List En} (h : SightAt K H sg z ns es) {c d : Addr} {f : List (Str × V)} (hp : H p = some (.ins c d f)) (hf : ∀ nl m dh dp, f ≠ fsS nl m dh dp) : sg ≠ p := fun e => by
  obtain ⟨dx, nl, dh, dp, own, h1, _⟩ := h
  rw [e, hp] at h1
  simp only [Option.some.injEq, HO.ins.injEq] at h1
  exact hf _ _ _ _ h1.2.2
theorem prs_of {H : Hp} : ∀ {ts : List Addr} {ps : List (Int × Int)}, ts.length = ps.length → (∀ (j : Nat) t p, ts[j]? = some t → ps[j]? = some p → H t = some (.tup [.int p.1, .int p.2])) → Prs H ts ps
  | [], [], _, _ => trivial
  | t :: ts, p :: ps, h, k => ⟨k 0 t p rfl rfl, prs_of (by simpa using h) fun j t p h1 h2 => k (j + 1) t p (by simpa using h1) (by simpa using h2)⟩
  | [], _ :: _, h, _ => by simp at h
  | _ :: _, [], h, _ => by simp at h
theorem cut_last (xs : List V) : cutV xs (some (-1)) none = xs.drop (xs.length - 1) := by
  unfold cutV
  rw [HT.sIx_none]
  have e : HT.sIx xs.length 0 (some (-1)) = xs.length - 1 := by
    show (if (-1 : Int) < 0 then ((-1 : Int) + (xs.length : Int)).toNat else min (-1 : Int).toNat xs.length) = xs.length - 1
    rw [if_pos (by decide)]
    omega
  rw [e]
  exact List.take_of_length_le (by rw [List.length_drop]; exact Nat.le_refl _)
/-! ### promises -/
def sp_Sight_whole_spans (K : PySem.W.Frag) : Sp := fun vs H Q _ => ∃ (p : Addr) (z : Int) (ns : List Str) (es : List En), vs = [.ref p] ∧ SightAt K H p z ns es ∧ ∀ a ts H', H a = none → Same H H' → H' a = some (.lst (ts.map V.ref)) → Prs H' ts (spansP z es) → Q (.ref a) H'
def sp_Reach_init (K : PySem.W.Frag) : Sp := fun vs H Q _ => ∃ (r dx p : Addr) (b : Bool) (z : Int) (ns : List Str) (es : List En), vs = [.ref r, .ref p] ∧ H r = some (.ins (CR K) dx []) ∧ LogAt K H p b z ns es ∧ obsD z ns es = .none ∧ ∀ H', Keep r H H' → ReachAt K H' r z ns es → Q .non H'
def sp_Reach_slots_in (K : PySem.W.Frag) : Sp := fun vs H Q _ => ∃ (r : Addr) (i : Nat) (n : Str) (f : Int) (z : Int) (ns : List Str) (es : List En), vs = [.ref r, .int (i : Int), .str n] ∧ ReachAt K H r z ns es ∧ (starts z es)[i]? = some f ∧ 0 ≤ f ∧ f ≤ topB z es ∧ n ∈ ns ∧ ∀ v H', Same H H' → Dp K H' v (duD (slO z ns es n f)) → Q v H'
def sp_Reach_owners_in (K : PySem.W.Frag) : Sp := fun vs H Q _ => ∃ (r : Addr) (i : Nat) (f : Int) (z : Int) (ns : List Str) (es : List En), vs = [.ref r, .int (i : Int)] ∧ ReachAt K H r z ns es ∧ (starts z es)[i]? = some f ∧ 0 ≤ f ∧ f ≤ topB z es ∧ ∀ a H', H a = none → Same H H' → H' a = some (.lst ((ownL z ns es f).map V.str)) → Q (.ref a) H'
def sp_owners_of (K : PySem.W.Frag) : Sp := fun vs H Q _ => ∃ (p : Addr) (b : Bool) (z : Int) (ns : List Str) (es : List En) (q : Int), vs = [.ref p, .int q] ∧ LogAt K H p b z ns es ∧ 0 ≤ q ∧ q ≤ topB z es ∧ obsD z ns es = .none ∧ ∀ a H', H a = none → Same H H' → H' a = some (.lst ((ownL z ns es q).map V.str)) → Q (.ref a) H'
def sp_slots_of (K : PySem.W.Frag) : Sp := fun vs H Q _ => ∃ (p : Addr) (b : Bool) (z : Int) (ns : List Str) (es : List En) (n : Str) (q : Int), vs = [.ref p, .str n, .int q] ∧ LogAt K H p b z ns es ∧ n ∈ ns ∧ 0 ≤ q ∧ q ≤ topB z es ∧ obsD z ns es = .none ∧ ∀ v H', Same H H' → Dp K H' v (duD (slO z ns es n q)) → Q v H'
def sureV : List Str → V
  | [n] => .str n
  | _ => .non
def sp_sure_owner (K : PySem.W.Frag) : Sp := fun vs H Q _ => ∃ (p : Addr) (b : Bool) (z : Int) (ns : List Str) (es : List En) (q : Int), vs = [.ref p, .int q] ∧ LogAt K H p b z ns es ∧ 0 ≤ q ∧ q ≤ topB z es ∧ obsD z ns es = .none ∧ ∀ H', Same H H' → Q (sureV (ownL z ns es q)) H'
end NbD

set_option Elab.async false
set_option linter.all false
set_option maxRecDepth 100000
set_option maxHeartbeats 4000000
/-! Jars: a feed whose numbers have bounds; what a draw costs is counted, so that its powers stay small enough. -/
namespace NbN
open PySem PySem.Spec PyProof.Rows L2 Nb NbE NbS NbF NbP NbK NbL NbX NbW NbZ NbM NbQ NbC NbG NbH NbI NbJ NbO NbA NbD
/-- a power of numbers that may be great -/
def CPowW (i j : Int) : Prop := 0 ≤ j ∧ j ≤ 1000 ∧ i.natAbs.log2 < 100000
theorem CPowW.ok {i j : Int} (h : CPowW i j) : (Builtin.Int.intBits i : Int) * j ≤ 2 ^ 27 := by
  obtain ⟨h0, h1, h2⟩ := h
  have b : Builtin.Int.intBits i ≤ i.natAbs.log2 + 1 := by
    unfold Builtin.Int.intBits
    split <;> omega
  have h3 : (Builtin.Int.intBits i : Int) ≤ 100000 := by omega
  have h4 : (Builtin.Int.intBits i : Int) * j ≤ 100000 * 1000 := Int.mul_le_mul h3 h1 h0 (by decide)
  exact Int.le_trans h4 (by decide)
theorem op_powW {X : Cx} : OpR X (binaryOp .Pow) (rI CPowW fun i j => .int (i ^ j.toNat)) := opI fun _ _ _ _ _ _ _ hc q => pow_int hc.1 hc.ok q
theorem powW_ok {i j : Int} (h0 : 0 ≤ i) (h : i ≤ 10 ^ 200) (j0 : 0 ≤ j) (j1 : j ≤ 1000) : CPowW i j := by
  refine ⟨j0, j1, ?_⟩
  have h2 : i.natAbs ≤ 10 ^ 200 := by omega
  by_cases e : i.natAbs = 0
  · rw [e]
    decide
  · exact Nat.lt_of_lt_of_le ((Nat.log2_lt e).mpr (Nat.lt_of_le_of_lt h2 (by decide +kernel : (10 : Nat) ^ 200 < 2 ^ 700))) (by decide)
/-- a text, some times over -/
def rMulS : R2 := fun x y H Q => ∃ z i, x = .str z ∧ y = .int i ∧ 0 ≤ i ∧ i ≤ 16 ∧ z.length ≤ 1000 ∧ Q (.str (Txt.mul z i)) H
theorem op_mulS {X : Cx} : OpR X (binaryOp .Mult) rMulS := by
  intro pins s σ H x y v u Q I rx ry h
  obtain ⟨z, i, rfl, rfl, h0, h1, hz, q⟩ := h
  obtain ⟨t, rfl⟩ := rx
  obtain ⟨t2, rfl⟩ := ry
  exact SB.mul (mulOk_of 1000 16 hz h1 (by omega) (by decide) (by decide)) fun t' tk => ⟨.str (Txt.mul z i), H, I.tok _, ⟨_, rfl⟩, q⟩
/-- the a-th drawn name -/
def nm (a r k : Nat) : Str := Txt.mul ⟨#[97 + (a + r)]⟩ (1 + (k : Int)) ++ ⟨#[109 + a]⟩
theorem nm_ok : ∀ a : Nat, a < 12 → ∀ r : Nat, r < 13 → ∀ k : Nat, k < 3 → nameOk (nm a r k) = true ∧ (nm a r k).cps.toList.getLast? = some (109 + a) := by decide +kernel
theorem nm_len : ∀ a : Nat, a < 12 → ∀ r : Nat, r < 13 → ∀ k : Nat, k < 3 → (Txt.mul ⟨#[97 + (a + r)]⟩ (1 + (k : Int))).length + (⟨#[109 + a]⟩ : Str).length ≤ 8 := by decide +kernel
theorem alpha_at : ∀ i : Nat, i < 26 → (Str.ofString "abcdefghijklmnopqrstuvwxyz").cps.toList[i]? = some (97 + i) := by decide +kernel
theorem last_at : ∀ i : Nat, i < 12 → (Str.ofString "mnopqrstuvwx").cps.toList[i]? = some (109 + i) := by decide +kernel
theorem nm_one {a r k a' r' k' : Nat} (h1 : a < 12) (h2 : r < 13) (h3 : k < 3) (g1 : a' < 12) (g2 : r' < 13) (g3 : k' < 3) (e : nm a r k = nm a' r' k') : a = a' := by
  have h := (nm_ok a h1 r h2 k h3).2
  rw [e, (nm_ok a' g1 r' g2 k' g3).2] at h
  have := Option.some.inj h
  omega
/-- a jar that k draws have been made of, at most -/
def Jar (k : Nat) (H : Hp) (fa : Addr) : Prop := ∃ x y z : Int, H fa = some (.lst [.int x, .int y, .int z]) ∧ 0 ≤ y ∧ y ≤ 10 ^ 60 ∧ 0 ≤ z ∧ z ≤ (k : Int)
theorem Jar.fd {k : Nat} {H : Hp} {fa : Addr} (h : Jar k H fa) : Feed H fa := by
  obtain ⟨x, y, z, h, _⟩ := h
  exact ⟨x, y, z, h⟩
theorem Jar.mono {k m : Nat} {H : Hp} {fa : Addr} (h : Jar k H fa) (l : k ≤ m) : Jar m H fa := by
  obtain ⟨x, y, z, h, h1, h2, h3, h4⟩ := h
  exact ⟨x, y, z, h, h1, h2, h3, by omega⟩
theorem Jar.same {k : Nat} {H H' : Hp} {fa : Addr} (h : Jar k H fa) (e : Same H H') : Jar k H' fa := by
  obtain ⟨x, y, z, h, r⟩ := h
  exact ⟨x, y, z, e _ _ h, r⟩
/-- c draws at most, and nothing else of what was there is changed -/
structure StJ (fa : Addr) (c : Nat) (H H' : Hp) : Prop where
  st : Stp fa H H'
  jr : ∀ k, Jar k H fa → Jar (k + c) H' fa
section
variable {fa p : Addr} {c c' k : Nat} {H H1 H2 : Hp} {o : HO}
theorem StJ.of (e : Same H H1) (f : Feed H fa) : StJ fa 0 H H1 := ⟨.of e f, fun _ j => j.same e⟩
theorem StJ.refl (f : Feed H fa) : StJ fa 0 H H := .of (Same.refl _) f
theorem StJ.trans (a : StJ fa c H H1) (b : StJ fa c' H1 H2) : StJ fa (c + c') H H2 := ⟨a.st.trans b.st, fun k j => by
  have := b.jr _ (a.jr k j)
  rwa [Nat.add_assoc] at this⟩
theorem StJ.same (a : StJ fa c H H1) (b : Same H1 H2) : StJ fa c H H2 := ⟨a.st.same b, fun k j => (a.jr k j).same b⟩
theorem StJ.mono (a : StJ fa c H H1) (l : c ≤ c') : StJ fa c' H H1 := ⟨a.st, fun k j => (a.jr k j).mono (by omega)⟩
theorem StJ.new (a : StJ fa c H H1) (h : H1 p = none) : StJ fa c H (upd H1 p o) := a.same (Same.new (Same.refl _) h)
theorem StJ.mut (a : StJ fa c H H1) (h : H p = none) (n : p ≠ fa) : StJ fa c H (upd H1 p o) := ⟨a.st.mut h n, fun k j => by
  obtain ⟨x, y, z, g, r⟩ := a.jr k j
  exact ⟨x, y, z, by rw [upd_ne n.symm]; exact g, r⟩⟩
theorem StJ.fd (a : StJ fa c H H1) : Feed H1 fa := a.st.fd
theorem StJ.kp (a : StJ fa c H H1) (b : Addr) (o : HO) (n : b ≠ fa) (h : H b = some o) : H1 b = some o := a.st.kp b o n h
theorem StJ.free (a : StJ fa c H H1) (n : p ≠ fa) (h : H1 p = none) : H p = none := a.st.free n h
theorem StJ.put (a : StJ fa c H H1) {x y z : Int} (r : ∀ k, Jar k H fa → 0 ≤ y ∧ y ≤ 10 ^ 60 ∧ 0 ≤ z ∧ z ≤ ((k + c : Nat) : Int)) : StJ fa c H (upd H1 fa (.lst [.int x, .int y, .int z])) := ⟨a.st.put, fun k j => by
  obtain ⟨h1, h2, h3, h4⟩ := r k j
  exact ⟨x, y, z, upd_same, h1, h2, h3, h4⟩⟩
end
theorem jar_z {k : Nat} {H : Hp} {fa : Addr} {x y z : Int} (h : Jar k H fa) (hf : H fa = some (.lst [.int x, .int y, .int z])) : 0 ≤ y ∧ y ≤ 10 ^ 60 ∧ 0 ≤ z ∧ z ≤ (k : Int) := by
  obtain ⟨x', y', z', g, r⟩ := h
  rw [hf] at g
  simp only [Option.some.injEq, HO.lst.injEq, List.cons.injEq, V.int.injEq, and_true] at g
  obtain ⟨rfl, rfl, rfl⟩ := g
  exact r
/-! ### the state of a scene: the next free block, who holds what, the names -/
structure JSt (H : Hp) (st dh em nl : Addr) (fr : Int) (held : Str → Option (Int × Int)) (ns : List Str) (i : Nat) : Prop where
  ls : H st = some (.lst [.int fr, .ref dh, .ref em, .ref nl])
  hd : HeldX H dh held i
  cr : CrewAt H nl ns
/-- all stays but the jar, the state and its dict -/
structure StK (fa st dh : Addr) (c : Nat) (H H' : Hp) : Prop where
  kp : ∀ b o, b ≠ fa → b ≠ st → b ≠ dh → H b = some o → H' b = some o
  jr : ∀ k, Jar k H fa → Jar (k + c) H' fa
theorem jar_ne {k : Nat} {H : Hp} {fa p : Addr} {o : HO} (h : Jar k H fa) (n : p ≠ fa) : Jar k (upd H p o) fa := by
  obtain ⟨x, y, z, g, r⟩ := h
  exact ⟨x, y, z, upd_keep g n.symm, r⟩
theorem stk_dict {fa st dh : Addr} {c : Nat} {H H1 : Hp} {o : HO} (e : StJ fa c H H1) (hc : c ≤ 8) (n2 : dh ≠ fa) : StK fa st dh 8 H (upd H1 dh o) :=
  ⟨fun q u h1 _ h3 hq => by rw [upd_ne h3]; exact e.kp q u h1 hq, fun k j => (jar_ne (e.jr k j) n2).mono (by omega)⟩
theorem StK.new {fa st dh p : Addr} {c : Nat} {H H1 : Hp} {o : HO} (e : StK fa st dh c H H1) (h : H1 p = none) : StK fa st dh c H (upd H1 p o) :=
  ⟨fun q u h1 h2 h3 hq => upd_keep (e.kp q u h1 h2 h3 hq) (ne_of_none (e.kp q u h1 h2 h3 hq) h), fun k j => (e.jr k j).same (Same.new (Same.refl _) h)⟩
theorem StK.state {fa st dh : Addr} {c : Nat} {H H1 : Hp} {o : HO} (e : StK fa st dh c H H1) (n : st ≠ fa) : StK fa st dh c H (upd H1 st o) :=
  ⟨fun q u h1 h2 h3 hq => by rw [upd_ne h2]; exact e.kp q u h1 h2 h3 hq, fun k j => jar_ne (e.jr k j) n⟩
theorem if_to {R : Bool → Hp → Prop} {tt : TT} {ta tb : TS} {D : Ends} {σ : L2.St} {H : Hp} (hc : ∀ QQ : Bool → Hp → Prop, (∀ b H', R b H' → QQ b H') → tt σ H QQ) (ha : ∀ H', R true H' → ta D σ H') (hb : ∀ H', R false H' → tb D σ H') : tIfS tt ta tb D σ H := hc _ fun b H' r => by
  cases b
  · exact hb H' r
  · exact ha H' r
theorem heldX_put {H : Hp} {dh t : Addr} {held : Str → Option (Int × Int)} {j : Nat} {kvs : List (Key × V)} {n : Str} {o d : Int} (S : HeldX H dh held j) (h : H dh = some (.dK kvs)) (ht : H t = some (.tup [.int o, .int d])) : HeldX (upd H dh (.dK (putK kvs (.inr n) (.ref t)))) dh (putH held n (o, d)) (j + 1) := by
  obtain ⟨kv2, c1, c2, c3⟩ := S
  rw [h] at c1
  cases c1
  have kt : ∀ t' ys, H t' = some (.tup ys) → upd H dh (.dK (putK kvs (.inr n) (.ref t))) t' = some (.tup ys) := fun t ys g => upd_keep g (ne_of g h (by simp))
  refine ⟨_, upd_same, Nat.le_trans (putK_le _ _ _) (by omega), fun m => ?_⟩
  rw [valV_put]
  unfold putH
  by_cases g : m = n
  · subst g
    rw [if_pos rfl, if_pos rfl]
    exact .inr ⟨t, o, d, rfl, rfl, kt _ _ ht⟩
  · rw [if_neg g, if_neg (fun e => g (by injection e))]
    exact (c3 m).imp id fun ⟨t, o, d, x, y, w⟩ => ⟨t, o, d, x, y, kt _ _ w⟩
theorem JSt.ne {H : Hp} {st dh em nl fa : Addr} {fr : Int} {held : Str → Option (Int × Int)} {ns : List Str} {i : Nat} (S : JSt H st dh em nl fr held ns i) (f : Feed H fa) : st ≠ fa ∧ dh ≠ fa ∧ st ≠ dh := by
  obtain ⟨kvs, a, _⟩ := S.hd
  have h := S.ls
  obtain ⟨x, y, z, g⟩ := f
  refine ⟨fun e => ?_, fun e => ?_, fun e => ?_⟩
  · rw [e, g] at h
    cases h
  · rw [e, g] at a
    cases a
  · rw [e, a] at h
    cases h
theorem JSt.stp {H H' : Hp} {st dh em nl fa : Addr} {fr : Int} {held : Str → Option (Int × Int)} {ns : List Str} {i : Nat} (S : JSt H st dh em nl fr held ns i) (f : Feed H fa) (e : Stp fa H H') : JSt H' st dh em nl fr held ns i := by
  obtain ⟨n1, n2, _⟩ := S.ne f
  exact ⟨e.kp _ _ n1 S.ls, S.hd.imp (fun _ g => e.kp _ _ n2 g) (fun t xs g => e.kp _ _ (ne_tup f g) g) (Nat.le_refl _), S.cr.stp f e⟩
theorem JSt.same {H H' : Hp} {st dh em nl : Addr} {fr : Int} {held : Str → Option (Int × Int)} {ns : List Str} {i : Nat} (S : JSt H st dh em nl fr held ns i) (e : Same H H') : JSt H' st dh em nl fr held ns i :=
  ⟨e _ _ S.ls, S.hd.imp (fun _ g => e _ _ g) (fun t xs g => e _ _ g) (Nat.le_refl _), S.cr.same e⟩
/-- the dict and the state's first cell are written anew -/
theorem JSt.put {H : Hp} {st dh em nl t : Addr} {fr o d : Int} {held : Str → Option (Int × Int)} {ns : List Str} {i : Nat} {kvs : List (Key × V)} {n : Str} (S : JSt H st dh em nl fr held ns i) (h : H dh = some (.dK kvs)) (ht : H t = some (.tup [.int o, .int d])) (nd : st ≠ dh) :
    JSt (upd H dh (.dK (putK kvs (.inr n) (.ref t)))) st dh em nl fr (putH held n (o, d)) ns (i + 1) := ⟨upd_keep S.ls nd, heldX_put S.hd h ht, upd_keep S.cr (ne_of S.cr h (by simp))⟩
theorem JSt.free {H : Hp} {st dh em nl : Addr} {fr fr' : Int} {held : Str → Option (Int × Int)} {ns : List Str} {i : Nat} (S : JSt H st dh em nl fr held ns i) (nd : st ≠ dh) : JSt (upd H st (.lst [.int fr', .ref dh, .ref em, .ref nl])) st dh em nl fr' held ns i := by
  have h := S.ls
  have hn : nl ≠ st := fun e => by
    have := S.cr
    rw [e] at this
    have t : H st = some (.lst (ns.map V.str)) := this
    rw [h] at t
    cases ns with
    | nil => cases t
    | cons _ _ => cases t
  exact ⟨upd_same, S.hd.imp (fun _ g => upd_keep g nd.symm) (fun t xs g => upd_keep g (ne_of g h (by simp))) (Nat.le_refl _), upd_keep S.cr hn⟩
theorem StK.out {fa st dh : Addr} {c c' k : Nat} {H H1 H2 : Hp} (e : StJ fa c H H1) (h : StK fa st dh c' H1 H2) (hs : H st = none) (hd : H dh = none) (j : Jar k H fa) : StJ fa (c + c') H H2 :=
  ⟨⟨fun b o n hb => h.kp b o n (fun q => by rw [q, hs] at hb; cases hb) (fun q => by rw [q, hd] at hb; cases hb) (e.kp b o n hb), (h.jr _ (e.jr k j)).fd⟩, fun k j => by
    have := h.jr _ (e.jr k j)
    rwa [Nat.add_assoc] at this⟩
theorem ents_stk {fa st dh em nl s : Addr} {c : Nat} {H H1 : Hp} {fr : Int} {held : Str → Option (Int × Int)} {ns : List Str} {i : Nat} {es : List En} (h : StK fa st dh c H H1) (S : JSt H st dh em nl fr held ns i) (f : Feed H fa) (he : EntsAt H s es) : EntsAt H1 s es := by
  obtain ⟨ts, a, b⟩ := he
  obtain ⟨x, y, z, g⟩ := f
  obtain ⟨kvs, g2, _⟩ := S.hd
  have g1 := S.ls
  have kt : ∀ t xs, H t = some (.tup xs) → H1 t = some (.tup xs) := fun t xs k => h.kp _ _ (fun q => by rw [q, g] at k; cases k) (fun q => by rw [q, g1] at k; cases k) (fun q => by rw [q, g2] at k; cases k) k
  refine ⟨ts, h.kp _ _ (fun q => ?_) (fun q => ?_) (fun q => ?_) a, b.imp kt⟩
  · rw [q, g] at a
    cases ts <;> cases a
  · rw [q, g1] at a
    cases ts <;> cases a
  · rw [q, g2] at a
    cases a
theorem JSt.mutS {H : Hp} {st dh em nl s : Addr} {fr : Int} {held : Str → Option (Int × Int)} {ns : List Str} {i : Nat} {ts : List Addr} {o : HO} (S : JSt H st dh em nl fr held ns i) (hs : H s = some (.lst (ts.map V.ref))) (hn : ns ≠ []) : JSt (upd H s o) st dh em nl fr held ns i := by
  have g1 := S.ls
  have n1 : st ≠ s := fun q => by
    rw [q, hs] at g1
    cases ts <;> cases g1
  have n2 : nl ≠ s := fun q => by
    have t : H nl = some (.lst (ns.map V.str)) := S.cr
    rw [q, hs] at t
    cases ns with
    | nil => exact hn rfl
    | cons _ _ => cases ts <;> cases t
  exact ⟨upd_keep S.ls n1, S.hd.imp (fun kvs g => upd_keep g (ne_of g hs (by simp))) (fun t xs g => upd_keep g (ne_of g hs (by simp))) (Nat.le_refl _), upd_keep S.cr n2⟩
/-! ### promises -/
def sp_law_scene (_ : PySem.W.Frag) : Sp := fun vs H Q _ => ∃ (fa : Addr) (mo ma jm : Int) (k : Nat), vs = [.ref fa, .int mo, .int ma, .int jm] ∧ Jar k H fa ∧ k ≤ 800000 ∧ 1 ≤ mo ∧ mo ≤ 60 ∧ 1 ≤ ma ∧ ma ≤ 12 ∧ 0 ≤ jm ∧ jm ≤ 10 ^ 36 ∧
  ∀ r z c s ns es tks fr H', H r = none → StJ fa 2000 H H' → H' r = some (.tup [.int z, .ref c, .ref s]) → SizeOk z → CrewAt H' c ns → Crew ns → (ns.length : Int) ≤ ma → EntsAt H' s es → (es.length : Int) ≤ mo → (∀ e ∈ es, e.1 ∈ ns ∧ 0 ≤ e.2) → Tale z es tks fr → (∀ t ∈ tks, t.n ∈ ns) → (∀ e ∈ es, e.2 < 10 ^ 80) → Q (.ref r) H'
def sp_law_step (_ : PySem.W.Frag) : Sp := fun vs H Q _ => ∃ (fa st dh em nl : Addr) (z jm : Int) (k : Nat) (fr : Int) (held : Str → Option (Int × Int)) (ns : List Str) (i : Nat), vs = [.ref fa, .int z, .ref st, .int jm] ∧ Jar k H fa ∧ k ≤ 900000 ∧ SizeOk z ∧ 0 ≤ jm ∧ jm ≤ 10 ^ 36 ∧ JSt H st dh em nl fr held ns i ∧ i ≤ 1000 ∧ 1 ≤ ns.length ∧ ns.length ≤ 12 ∧
  (∀ n o d, held n = some (o, d) → 0 ≤ o ∧ o ≤ 10 ^ 100 ∧ 0 ≤ d ∧ d ≤ z) ∧ 0 ≤ fr ∧ fr ≤ 10 ^ 100 ∧
  (∀ n x H', n ∈ ns → 0 ≤ x → x ≤ jm + 3 → StK fa st dh 8 H H' → JSt H' st dh em nl (fr + x + 1) (putH held n (fr + x, 0)) ns (i + 1) → Q .non H') ∧
  ∀ n o d x t H', n ∈ ns → held n = some (o, d) → d ≤ x → x < z → StK fa st dh 8 H H' → JSt H' st dh em nl fr (putH held n (o, x + 1)) ns (i + 1) → H' t = some (.tup [.str n, .int (o * z + x)]) → Q (.ref t) H'
def sp_law_jar (K : PySem.W.Frag) : Sp := fun vs H Q _ => ∃ (a : Addr) (ns : List Int) (k : Int), vs = [.ref a, .int k] ∧ SqL K H a (ns.map V.int) ∧ ns.length ≤ 63 ∧ 0 ≤ k ∧ k ≤ 1000 ∧ ∀ fa H', H fa = none → Same H H' → Jar 0 H' fa → Q (.ref fa) H'
def sp_law_tap (_ : PySem.W.Frag) : Sp := fun vs H Q _ => ∃ (fa : Addr) (n : Int) (k : Nat), vs = [.ref fa, .int n] ∧ Jar k H fa ∧ k ≤ 1000000 ∧ 0 < n ∧ n ≤ 10 ^ 200 ∧ ∀ (r : Int) H', 0 ≤ r → r < n → StJ fa 1 H H' → Q (.int r) H'
end NbN

set_option Elab.async false
set_option linter.all false
set_option maxRecDepth 100000
set_option maxHeartbeats 4000000
/-! Spans as the program has them; lists of owners and how many there are; dicts of whole numbers by their totals. -/
namespace NbAa
open PySem PySem.Spec PyProof.Rows L2 Nb NbE NbS NbF NbP NbK NbL NbX NbW NbZ NbM NbQ NbC NbG NbH NbI NbJ NbO NbA NbD NbN
/-! ### spans -/
def prsG : Int → List Int → List (Int × Int)
  | _, [] => []
  | f, b :: r => (if f < b then [(f, b - 1), (b, b)] else [(b, b)]) ++ prsG (b + 1) r
theorem prsG_cons (f b : Int) (r : List Int) : prsG f (b :: r) = (if f < b then [(f, b - 1), (b, b)] else [(b, b)]) ++ prsG (b + 1) r := rfl
theorem prsG_fst : ∀ (xs : List Int) (f : Int), (prsG f xs).map (·.1) = startsG f xs
  | [], _ => rfl
  | b :: r, f => by
    rw [prsG_cons, startsG_cons, List.map_append, prsG_fst r (b + 1)]
    split <;> rfl
def spansL (z : Int) (es : List En) : List (Int × Int) := prsG 0 (NbM.seen z es)
theorem spansL_fst (z : Int) (es : List En) : (spansL z es).map (·.1) = starts z es := prsG_fst _ _
theorem len_spansL (z : Int) (es : List En) : (spansL z es).length = (starts z es).length := by rw [← spansL_fst, List.length_map]
theorem prsG_gap : ∀ (xs : List Int) (f : Int), xs.Pairwise (· < ·) → (∀ x ∈ xs, f ≤ x) → ∀ p ∈ prsG f xs, p.1 = p.2 ∨ ∃ b ∈ xs, p.2 = b - 1 ∧ f ≤ p.1 ∧ ∀ x ∈ xs, x < p.1 ∨ b ≤ x
  | [], f, _, _, p, h => by cases h
  | b :: r, f, hs, hb, p, h => by
    have hs' := List.pairwise_cons.mp hs
    rw [prsG_cons] at h
    rcases List.mem_append.mp h with h | h
    · split at h
      · rcases List.mem_cons.mp h with rfl | h
        · refine .inr ⟨b, List.mem_cons_self .., rfl, Int.le_refl _, fun x hx => .inr ?_⟩
          rcases List.mem_cons.mp hx with rfl | hx
          · exact Int.le_refl _
          · exact Int.le_of_lt (hs'.1 x hx)
        · rw [List.mem_singleton.mp h]
          exact .inl rfl
      · rw [List.mem_singleton.mp h]
        exact .inl rfl
    · rcases prsG_gap r (b + 1) hs'.2 (fun x hx => hs'.1 x hx) p h with g | ⟨b', g1, g2, g3, g4⟩
      · exact .inl g
      · have := hb b (List.mem_cons_self ..)
        refine .inr ⟨b', List.mem_cons_of_mem _ g1, g2, by omega, fun x hx => ?_⟩
        rcases List.mem_cons.mp hx with rfl | hx
        · exact .inl (by omega)
        · exact g4 x hx
theorem prsG_in {M : Int} : ∀ (xs : List Int) (f : Int), xs.Pairwise (· < ·) → (∀ x ∈ xs, f ≤ x ∧ x ≤ M) → ∀ p ∈ prsG f xs, f ≤ p.1 ∧ p.1 ≤ p.2 ∧ p.2 ≤ M
  | [], f, _, _, p, h => by cases h
  | b :: r, f, hs, hb, p, h => by
    rw [prsG_cons] at h
    have b0 := hb b (List.mem_cons_self ..)
    rcases List.mem_append.mp h with h | h
    · split at h
      · rcases List.mem_cons.mp h with rfl | h
        · exact ⟨Int.le_refl _, by show f ≤ b - 1; omega, by show b - 1 ≤ M; omega⟩
        · rw [List.mem_singleton.mp h]
          exact ⟨b0.1, Int.le_refl _, b0.2⟩
      · rw [List.mem_singleton.mp h]
        exact ⟨b0.1, Int.le_refl _, b0.2⟩
    · have h1 := prsG_in r (b + 1) (List.pairwise_cons.mp hs).2 (fun x hx => ⟨by have := (List.pairwise_cons.mp hs).1 x hx; omega, (hb x (List.mem_cons_of_mem _ hx)).2⟩) p h
      exact ⟨by omega, h1.2⟩
section
variable {z q : Int} {ns : List Str} {es : List En} {p : Int × Int}
theorem span_alike (hz : 1 ≤ z) (pos : ∀ e ∈ es, 0 ≤ e.2) (ho : obsD z ns es = .none) (hp : p ∈ spansL z es) (h1 : p.1 ≤ q) (h2 : q ≤ p.2) : eI z ns es p.1 = eI z ns es q ∧ lI z ns es p.1 = lI z ns es q ∧ ∀ n, winO z es n p.1 = winO z es n q := by
  obtain ⟨_, P⟩ := (poss_iff hz pos).mp ho
  rcases prsG_gap _ _ (lt_seen z es) (seen_pos hz pos) p hp with g | ⟨b, hb, g2, g3, g4⟩
  · obtain rfl : p.1 = q := by omega
    exact ⟨rfl, rfl, fun _ => rfl⟩
  · obtain ⟨e', he', hb'⟩ := (mem_seen z b es).mp hb
    have hbt : b ≤ topB z es := hb' ▸ topB_le he'
    have gp : ∀ e ∈ es, e.2 / z < p.1 ∨ b ≤ e.2 / z := fun e he => g4 _ ((mem_seen z _ es).mpr ⟨e, he, rfl⟩)
    refine ⟨(gap_e' gp g3 (P _ g3 (by omega)) h1 (by omega)).symm, ?_, fun n => ?_⟩
    · rw [gap_l' P gp g3 hbt h1 (by omega), gap_l' P gp g3 hbt (Int.le_refl _) (by omega)]
    · have := wins_gap (ns := [n]) gp h1 (show q < b by omega)
      unfold wins at this
      rw [List.filterMap_cons, List.filterMap_cons] at this
      cases k1 : winO z es n q <;> cases k2 : winO z es n p.1 <;> rw [k1, k2] at this <;> simp at this
      rw [this]
theorem span_top (hz : 1 ≤ z) (pos : ∀ e ∈ es, 0 ≤ e.2) (hp : p ∈ spansL z es) : 0 ≤ p.1 ∧ p.1 ≤ p.2 ∧ p.2 ≤ topB z es := by
  refine prsG_in (M := topB z es) _ _ (lt_seen z es) (fun x hx => ⟨seen_pos hz pos x hx, ?_⟩) p hp
  obtain ⟨e, he, rfl⟩ := (mem_seen z x es).mp hx
  exact topB_le he
/-- as the program puts them together -/
theorem zip_prs : ∀ (xs : List Int) (f : Int), xs.Pairwise (· < ·) → (∀ x ∈ xs, f ≤ x) → (startsG f xs).zip (((startsG f xs).drop 1).map (fun x => x - 1) ++ (startsG f xs).drop ((startsG f xs).length - 1)) = prsG f xs
  | [], f, _, _ => rfl
  | b :: r, f, hs, hb => by
    have hs' := List.pairwise_cons.mp hs
    have ih := zip_prs r (b + 1) hs'.2 (fun x hx => hs'.1 x hx)
    have key : (b :: startsG (b + 1) r).zip (((b :: startsG (b + 1) r).drop 1).map (fun x => x - 1) ++ (b :: startsG (b + 1) r).drop ((b :: startsG (b + 1) r).length - 1)) = (b, b) :: prsG (b + 1) r := by
      cases r with
      | nil => rfl
      | cons c r =>
        obtain ⟨r', hr'⟩ := startsG_head (r := r) (show b + 1 ≤ c from hs'.1 c (List.mem_cons_self ..))
        rw [hr'] at ih ⊢
        rw [← ih]
        simp only [List.drop_succ_cons, List.drop_zero, List.map_cons, List.length_cons, List.cons_append, List.zip_cons_cons, Nat.add_sub_cancel]
        rw [show b + 1 - 1 = b by omega]
    rw [prsG_cons, startsG_cons]
    split
    · rename_i h
      show (f :: b :: startsG (b + 1) r).zip _ = (f, b - 1) :: (b, b) :: prsG (b + 1) r
      rw [← key]
      simp only [List.drop_succ_cons, List.drop_zero, List.map_cons, List.length_cons, List.cons_append, List.zip_cons_cons, Nat.add_sub_cancel, List.nil_append]
    · exact key
theorem spansP_eq (hz : 1 ≤ z) (pos : ∀ e ∈ es, 0 ≤ e.2) : spansP z es = spansL z es := zip_prs _ _ (lt_seen z es) (seen_pos hz pos)
def lenS (ps : List (Int × Int)) : Int := (ps.map fun p => p.2 + 1 - p.1).sum
theorem prsG_chain : ∀ (xs : List Int) (f : Int), xs.Pairwise (· < ·) → (∀ x ∈ xs, f ≤ x) → ∀ (i : Nat) p, (prsG f xs)[i]? = some p → p.1 = f + lenS ((prsG f xs).take i)
  | [], f, _, _, i, p, h => by simp [prsG] at h
  | b :: r, f, hs, hb, i, p, h => by
    have hs' := List.pairwise_cons.mp hs
    have ih := prsG_chain r (b + 1) hs'.2 (fun x hx => hs'.1 x hx)
    have hfb := hb b (List.mem_cons_self ..)
    rw [prsG_cons] at h ⊢
    split at h
    · rename_i g
      rw [if_pos g]
      match i, h with
      | 0, h => cases h; simp [lenS]
      | 1, h => cases h; simp [lenS]; omega
      | i + 2, h =>
        have := ih i p (by simpa using h)
        simp only [List.cons_append, List.nil_append, List.take_succ_cons]
        unfold lenS at this ⊢
        rw [List.map_cons, List.map_cons, List.sum_cons, List.sum_cons]
        show p.1 = f + ((b - 1 + 1 - f) + ((b + 1 - b) + _))
        omega
    · rename_i g
      rw [if_neg g]
      match i, h with
      | 0, h => cases h; simp [lenS]; omega
      | i + 1, h =>
        have := ih i p (by simpa using h)
        simp only [List.cons_append, List.nil_append, List.take_succ_cons]
        unfold lenS at this ⊢
        rw [List.map_cons, List.sum_cons]
        show p.1 = f + ((b + 1 - b) + _)
        omega
theorem prsG_whole : ∀ (xs : List Int) (f : Int), xs.Pairwise (· < ·) → (∀ x ∈ xs, f ≤ x) → lenS (prsG f xs) = match xs.getLast? with | some b => b + 1 - f | none => 0
  | [], f, _, _ => rfl
  | b :: r, f, hs, hb => by
    have hs' := List.pairwise_cons.mp hs
    have ih := prsG_whole r (b + 1) hs'.2 (fun x hx => hs'.1 x hx)
    have hfb := hb b (List.mem_cons_self ..)
    have key : lenS (prsG f (b :: r)) = b + 1 - f + lenS (prsG (b + 1) r) := by
      rw [prsG_cons]
      split
      · unfold lenS
        simp only [List.cons_append, List.nil_append, List.map_cons, List.sum_cons]
        omega
      · unfold lenS
        simp only [List.cons_append, List.nil_append, List.map_cons, List.sum_cons]
        omega
    rw [key, ih]
    cases r with
    | nil => simp
    | cons c r =>
      rw [List.getLast?_cons_cons]
      have : ((c :: r).getLast?).isSome = true := by simp
      cases hl : (c :: r).getLast? with
      | none => rw [hl] at this; cases this
      | some x =>
        show b + 1 - f + (x + 1 - (b + 1)) = x + 1 - f
        omega
theorem last_seen (hz : 1 ≤ z) (pos : ∀ e ∈ es, 0 ≤ e.2) (h : 0 ≤ topB z es) : (NbM.seen z es).getLast? = some (topB z es) := by
  rcases top_mem hz pos with ⟨_, g⟩ | ⟨_, f, hf, g⟩
  · omega
  · have h5 := (mem_seen z (topB z es) es).mpr ⟨f, hf, g⟩
    cases hl : (NbM.seen z es).getLast? with
    | none => rw [List.getLast?_eq_none_iff] at hl; rw [hl] at h5; cases h5
    | some x =>
      obtain ⟨ys, hy⟩ := List.getLast?_eq_some_iff.mp hl
      have hm := List.mem_of_getLast? hl
      obtain ⟨e, he, h3⟩ := (mem_seen z x es).mp hm
      have h4 := topB_le (z := z) he
      have h6 := lt_seen z es
      rw [hy] at h5 h6
      rcases List.mem_append.mp h5 with k | k
      · have := (List.pairwise_append.mp h6).2.2 _ k _ (List.mem_singleton.mpr rfl)
        omega
      · rw [List.mem_singleton.mp k]
theorem spans_len (hz : 1 ≤ z) (pos : ∀ e ∈ es, 0 ≤ e.2) : lenS (spansL z es) = topB z es + 1 := by
  unfold spansL
  rw [prsG_whole _ _ (lt_seen z es) (seen_pos hz pos)]
  rcases top_mem hz pos with ⟨h, g⟩ | ⟨h, _⟩
  · rw [g]
    subst h
    rfl
  · rw [last_seen hz pos h]
    show topB z es + 1 - 0 = _
    omega
theorem span_first (hz : 1 ≤ z) (pos : ∀ e ∈ es, 0 ≤ e.2) {i : Nat} (h : (spansL z es)[i]? = some p) : p.1 = lenS ((spansL z es).take i) := by
  have := prsG_chain _ _ (lt_seen z es) (seen_pos hz pos) i p h
  rw [this]
  exact Int.zero_add _
theorem lenS_step {ps : List (Int × Int)} {i : Nat} (h : ps[i]? = some p) : lenS (ps.take (i + 1)) = lenS (ps.take i) + (p.2 + 1 - p.1) := by
  rw [List.take_add_one, h]
  unfold lenS
  rw [List.map_append, List.sum_append]
  simp
end
/-! ### lists of owners -/
abbrev WRow := List (Option (Int × Int))
/-- in how many ways the rest can be taken from a slot on -/
def wayR (f : Int → Int) (s : Int) : WRow → Int
  | [] => 0
  | none :: r => wayR f s r
  | some w :: r => (if max w.1 s ≤ w.2 then f (max w.1 s) else 0) + wayR f s r
def ways : List WRow → Int → Int
  | [], _ => 1
  | row :: rest, s => wayR (ways rest) s row
theorem wayR_app (f : Int → Int) (s : Int) : ∀ a b : WRow, wayR f s (a ++ b) = wayR f s a + wayR f s b
  | [], b => by
    show wayR f s b = 0 + wayR f s b
    omega
  | none :: r, b => wayR_app f s r b
  | some w :: r, b => by
    show (if max w.1 s ≤ w.2 then f (max w.1 s) else 0) + wayR f s (r ++ b) = (if max w.1 s ≤ w.2 then f (max w.1 s) else 0) + wayR f s r + wayR f s b
    rw [wayR_app f s r b]
    omega
def winR (z : Int) (ns : List Str) (es : List En) (q : Int) : WRow := ns.map fun n => winO z es n q
def winRs (z : Int) (ns : List Str) (es : List En) (q : Int) : Nat → List WRow
  | 0 => []
  | k + 1 => winR z ns es q :: winRs z ns es (q + 1) k
theorem len_winRs (z : Int) (ns : List Str) (es : List En) : ∀ (k : Nat) (q : Int), (winRs z ns es q k).length = k
  | 0, _ => rfl
  | k + 1, q => by
    show (winRs z ns es (q + 1) k).length + 1 = k + 1
    rw [len_winRs]
theorem winRs_get (z : Int) (ns : List Str) (es : List En) : ∀ (k : Nat) (q : Int) (i : Nat), i < k → (winRs z ns es q k)[i]? = some (winR z ns es (q + i))
  | 0, _, i, h => by omega
  | k + 1, q, 0, _ => by
    show some (winR z ns es q) = some (winR z ns es (q + (0 : Nat)))
    rw [show q + ((0 : Nat) : Int) = q by omega]
  | k + 1, q, i + 1, h => by
    show (winRs z ns es (q + 1) k)[i]? = _
    rw [winRs_get z ns es k (q + 1) i (by omega), show q + 1 + (i : Int) = q + ((i + 1 : Nat) : Int) by omega]
/-- from a block on: as many as there are owners of each -/
def prodO (z : Int) (ns : List Str) (es : List En) (q : Int) : Nat → Int
  | 0 => 1
  | k + 1 => ((ownL z ns es q).length : Int) * prodO z ns es (q + 1) k
section
variable {z q s k : Int} {ns : List Str} {es : List En} {n : Str}
theorem slO_iff : (slO z ns es n q).isSome = true ↔ ∃ k, SlW z es n q k ∧ eI z ns es q ≤ k ∧ k ≤ lI z ns es q := by
  constructor
  · intro h
    cases hw : winO z es n q with
    | none =>
      unfold slO at h
      rw [hw] at h
      cases h
    | some w =>
      unfold slO at h
      rw [hw] at h
      replace h : (if max w.1 (eI z ns es q) ≤ min w.2 (lI z ns es q) then some (max w.1 (eI z ns es q), min w.2 (lI z ns es q)) else none).isSome = true := h
      split at h
      · exact ⟨max w.1 (eI z ns es q), slW_iff.mp ⟨w, hw, by omega, by omega⟩, by omega, by omega⟩
      · cases h
  · rintro ⟨k, h1, h2, h3⟩
    obtain ⟨w, hw, h4, h5⟩ := slW_iff.mpr h1
    unfold slO
    rw [hw]
    show (if max w.1 (eI z ns es q) ≤ min w.2 (lI z ns es q) then some (max w.1 (eI z ns es q), min w.2 (lI z ns es q)) else none).isSome = true
    rw [if_pos (by omega)]
    rfl
/-- where an entry of a block up to the greatest stands, no slot of this block or a lower one is behind it -/
theorem l_le_at (P : ∀ q, 0 ≤ q → q ≤ topB z es → eI z ns es q ≤ (es.length : Int)) (h0 : 0 ≤ q) {i : Nat} {e : En} (he : es[i]? = some e) (hb : q ≤ e.2 / z) : lI z ns es q ≤ (i : Int) := by
  have ht := topB_le (z := z) (List.mem_of_getElem? he)
  have hm := lI_mono P h0 hb ht
  obtain ⟨s', hs', h⟩ := inW_iff.mp (lI_in P (by omega) ht)
  have ho := h.own i e he rfl
  have := h.hi i e he ho (by omega)
  omega
/-- the slots of a step: from s on, s not below the earliest of the block before, not behind the latest of this one -/
theorem step_iff (P : ∀ q, 0 ≤ q → q ≤ topB z es → eI z ns es q ≤ (es.length : Int)) (h0 : 0 ≤ q) (h1 : q ≤ topB z es) (s0 : pI z ns es q ≤ s) (s1 : s ≤ lI z ns es q) (hn : n ∈ ns) {w : Int × Int} (hw : winO z es n q = some w) :
    (max w.1 s ≤ w.2 ∧ max w.1 s ≤ lI z ns es q) ↔ (slO z ns es n q).isSome = true := by
  have ll := lI_le P h0 h1
  constructor
  · rintro ⟨a, b⟩
    have hk : SlW z es n q (max w.1 s) := slW_iff.mp ⟨w, hw, by omega, a⟩
    refine slO_iff.mpr ⟨max w.1 s, hk, ?_, b⟩
    rw [eI_eq h0]
    exact sFrom_min (by omega) (inW_iff.mpr ⟨n, hn, hk⟩)
  · intro h
    obtain ⟨k, hk, h2, h3⟩ := slO_iff.mp h
    obtain ⟨w', hw', a, b⟩ := slW_iff.mpr hk
    rw [hw] at hw'
    cases hw'
    have hs : s ≤ w.2 := by
      obtain ⟨_, rfl⟩ := winO_hold hw
      refine (high_ge q z n s es 0 (es.length : Int)).mpr ⟨by omega, fun i e he hn' hb => ?_⟩
      have := l_le_at P h0 he (show q ≤ e.2 / z by omega)
      omega
    omega
theorem dead_iff (P : ∀ q, 0 ≤ q → q ≤ topB z es → eI z ns es q ≤ (es.length : Int)) (h0 : 0 ≤ q) (h1 : q ≤ topB z es) (hn : n ∈ ns) {w : Int × Int} (hw : winO z es n q = some w) (hk : max w.1 s ≤ w.2) :
    max w.1 s ≤ lI z ns es q ↔ (q = topB z es ∨ max w.1 s ≤ lI z ns es (q + 1)) := by
  have hs : SlW z es n q (max w.1 s) := slW_iff.mp ⟨w, hw, by omega, hk⟩
  have hi := inW_iff.mpr ⟨n, hn, hs⟩
  rcases (by omega : q = topB z es ∨ q < topB z es) with h | h
  · refine ⟨fun _ => .inl h, fun _ => ?_⟩
    rw [h] at hi ⊢
    rw [lI_top]
    exact sUpTo_max hs.k1 hi
  · have hu := lI_up P h0 h
    refine ⟨fun g => .inr (by omega), fun g => ?_⟩
    rcases g with g | g
    · omega
    · rw [lI_eq h]
      exact sUpTo_max g hi
theorem wayR_own (P : ∀ q, 0 ≤ q → q ≤ topB z es → eI z ns es q ≤ (es.length : Int)) (h0 : 0 ≤ q) (h1 : q ≤ topB z es) (s0 : pI z ns es q ≤ s) (s1 : s ≤ (es.length : Int)) {f : Int → Int} {c : Int}
    (hf : ∀ k, eI z ns es q ≤ k → k ≤ (es.length : Int) → f k = if q = topB z es ∨ k ≤ lI z ns es (q + 1) then c else 0) :
    ∀ ms : List Str, (∀ n ∈ ms, n ∈ ns) → wayR f s (ms.map fun n => winO z es n q) = if s ≤ lI z ns es q then ((ms.filter fun n => (slO z ns es n q).isSome).length : Int) * c else 0
  | [], _ => by
    show (0 : Int) = _
    split <;> simp
  | n :: r, hm => by
    have ih := wayR_own P h0 h1 s0 s1 hf r (fun x hx => hm x (List.mem_cons_of_mem _ hx))
    have hn := hm n (List.mem_cons_self ..)
    rw [List.map_cons]
    cases hw : winO z es n q with
    | none =>
      show wayR f s (r.map fun n => winO z es n q) = _
      rw [ih, List.filter_cons_of_neg (p := fun n => (slO z ns es n q).isSome)]
      unfold slO
      rw [hw]
      intro g
      cases g
    | some w =>
      show (if max w.1 s ≤ w.2 then f (max w.1 s) else 0) + wayR f s (r.map fun n => winO z es n q) = _
      rw [ih]
      by_cases hk : max w.1 s ≤ w.2
      · have hs : SlW z es n q (max w.1 s) := slW_iff.mp ⟨w, hw, by omega, hk⟩
        have he : eI z ns es q ≤ max w.1 s := by
          rw [eI_eq h0]
          exact sFrom_min (by omega) (inW_iff.mpr ⟨n, hn, hs⟩)
        rw [if_pos hk, hf _ he hs.k1]
        have hd := dead_iff P h0 h1 hn hw hk
        by_cases hl : s ≤ lI z ns es q
        · have hi := step_iff P h0 h1 s0 hl hn hw
          rw [if_pos hl, if_pos hl]
          by_cases hq : max w.1 s ≤ lI z ns es q
          · rw [if_pos (hd.mp hq), List.filter_cons_of_pos (p := fun n => (slO z ns es n q).isSome) (hi.mp ⟨hk, hq⟩), List.length_cons]
            rw [show ((((r.filter fun n => (slO z ns es n q).isSome).length + 1 : Nat)) : Int) = ((r.filter fun n => (slO z ns es n q).isSome).length : Int) + 1 by omega, Int.add_mul, Int.one_mul]
            omega
          · rw [if_neg fun g => hq (hd.mpr g), List.filter_cons_of_neg (p := fun n => (slO z ns es n q).isSome) fun g => hq (hi.mpr g).2]
            omega
        · rw [if_neg hl, if_neg hl, if_neg fun g => hl (by have := hd.mpr g; omega)]
          omega
      · rw [if_neg hk]
        by_cases hl : s ≤ lI z ns es q
        · have hi := step_iff P h0 h1 s0 hl hn hw
          rw [if_pos hl, if_pos hl, List.filter_cons_of_neg (p := fun n => (slO z ns es n q).isSome) fun g => hk (hi.mpr g).1]
          omega
        · rw [if_neg hl, if_neg hl]
          omega
theorem ways_own (P : ∀ q, 0 ≤ q → q ≤ topB z es → eI z ns es q ≤ (es.length : Int)) : ∀ (k : Nat) (q s : Int), 0 ≤ q → q + k = topB z es + 1 → pI z ns es q ≤ s → s ≤ (es.length : Int) →
    ways (winRs z ns es q k) s = if k = 0 ∨ s ≤ lI z ns es q then prodO z ns es q k else 0
  | 0, _, _, _, _, _, _ => rfl
  | k + 1, q, s, h0, hk, s0, s1 => by
    show wayR (ways (winRs z ns es (q + 1) k)) s (winR z ns es q) = _
    have h1 : q ≤ topB z es := by omega
    unfold winR
    rw [wayR_own (c := prodO z ns es (q + 1) k) P h0 h1 s0 s1 (fun j j0 j1 => ?_) ns (fun n hn => hn)]
    · show (if s ≤ lI z ns es q then ((ownL z ns es q).length : Int) * prodO z ns es (q + 1) k else 0) = _
      by_cases hl : s ≤ lI z ns es q
      · rw [if_pos hl, if_pos (.inr hl)]
        rfl
      · rw [if_neg hl, if_neg (by omega)]
    · rw [ways_own P k (q + 1) j (by omega) (by omega) (by rw [pI_succ h0]; exact j0) j1]
      rcases (by omega : q = topB z es ∧ k = 0 ∨ q ≠ topB z es ∧ k ≠ 0) with ⟨a, b⟩ | ⟨a, b⟩
      · rw [if_pos (.inl b), if_pos (.inl a)]
      · simp only [a, b, false_or]
/-- the number of lists of owners -/
def cntO (z : Int) (ns : List Str) (es : List En) : Int := prodO z ns es 0 (topB z es + 1).toNat
theorem top_ge (hz : 1 ≤ z) (pos : ∀ e ∈ es, 0 ≤ e.2) : -1 ≤ topB z es := by
  rcases top_mem hz pos with ⟨_, h⟩ | ⟨h, _⟩ <;> omega
theorem ways_all (hz : 1 ≤ z) (pos : ∀ e ∈ es, 0 ≤ e.2) (ho : obsD z ns es = .none) : ways (winRs z ns es 0 (topB z es + 1).toNat) 0 = cntO z ns es := by
  obtain ⟨_, P⟩ := (poss_iff hz pos).mp ho
  have h := top_ge hz pos
  have hl : (topB z es + 1).toNat = 0 ∨ 0 ≤ lI z ns es 0 := by
    rcases (by omega : topB z es = -1 ∨ 0 ≤ topB z es) with g | g
    · exact .inl (by omega)
    · have := e_le_l' P (Int.le_refl 0) g
      have := eI_pos (z := z) (ns := ns) (es := es) (q := 0)
      exact .inr (by omega)
  rw [ways_own P _ 0 0 (Int.le_refl _) (by omega) (by unfold pI; rw [if_pos (Int.le_refl _)]; exact Int.le_refl _) (by omega), if_pos hl]
  rfl
theorem prod_pos (P : ∀ q, 0 ≤ q → q ≤ topB z es → eI z ns es q ≤ (es.length : Int)) : ∀ (k : Nat) (q : Int), 0 ≤ q → q + k ≤ topB z es + 1 → 1 ≤ prodO z ns es q k
  | 0, _, _, _ => Int.le_refl _
  | k + 1, q, h0, h1 => by
    have ih := prod_pos P k (q + 1) (by omega) (by omega)
    have := List.length_pos_iff.mpr (own_some (z := z) (ns := ns) (es := es) P h0 (by omega))
    show 1 ≤ ((ownL z ns es q).length : Int) * prodO z ns es (q + 1) k
    have := Int.mul_le_mul (show (1 : Int) ≤ ((ownL z ns es q).length : Int) by omega) ih (by decide) (by omega)
    omega
theorem cnt_pos (hz : 1 ≤ z) (pos : ∀ e ∈ es, 0 ≤ e.2) (ho : obsD z ns es = .none) : 1 ≤ cntO z ns es := by
  obtain ⟨_, P⟩ := (poss_iff hz pos).mp ho
  have h := top_ge hz pos
  exact prod_pos P _ 0 (Int.le_refl _) (by omega)
end
/-! ### dicts of whole numbers -/
def intV : V → Int
  | .int i => i
  | _ => 0
def tot (f : Int → Int) : List (Key × V) → Int
  | [] => 0
  | (.inl s, v) :: r => intV v * f s + tot f r
  | (.inr _, _) :: r => tot f r
/-- keys from 0 to m, each once; whole numbers -/
structure IntD (m : Int) (kvs : List (Key × V)) : Prop where
  nd : (kvs.map (·.1)).Nodup
  ok : ∀ p ∈ kvs, ∃ s c : Int, p = (.inl s, .int c) ∧ 0 ≤ s ∧ s ≤ m
theorem putK_cons {p : Key × V} {r : List (Key × V)} {k : Key} {v : V} (h : ((p :: r).map (·.1)).Nodup) : putK (p :: r) k v = if p.1 = k then (p.1, v) :: r else p :: putK r k v := by
  rw [List.map_cons, List.nodup_cons] at h
  by_cases e : p.1 = k
  · rw [if_pos e]
    unfold putK
    rw [if_pos (by rw [List.any_cons, decide_eq_true e]; rfl), List.map_cons, if_pos e]
    congr 1
    refine (List.map_congr_left fun kv hkv => ?_).trans (List.map_id r)
    rw [if_neg fun g => h.1 (by rw [e, ← g]; exact List.mem_map.mpr ⟨kv, hkv, rfl⟩)]
    rfl
  · rw [if_neg e]
    unfold putK
    rw [List.any_cons, decide_eq_false e, Bool.false_or]
    split
    · rw [List.map_cons, if_neg e]
    · rfl
theorem keys_put : ∀ {kvs : List (Key × V)} {k : Key} {v : V}, (kvs.map (·.1)).Nodup → (k ∈ kvs.map (·.1) ∧ (putK kvs k v).map (·.1) = kvs.map (·.1)) ∨ (¬ k ∈ kvs.map (·.1) ∧ (putK kvs k v).map (·.1) = kvs.map (·.1) ++ [k])
  | [], k, v, _ => .inr ⟨List.not_mem_nil, rfl⟩
  | p :: r, k, v, h => by
    have h' := h
    rw [List.map_cons, List.nodup_cons] at h'
    rw [putK_cons h]
    by_cases e : p.1 = k
    · rw [if_pos e]
      exact .inl ⟨by rw [List.map_cons, e]; exact List.mem_cons_self .., rfl⟩
    · rw [if_neg e, List.map_cons, List.map_cons]
      rcases keys_put (k := k) (v := v) h'.2 with ⟨g, ih⟩ | ⟨g, ih⟩
      · exact .inl ⟨List.mem_cons_of_mem _ g, by rw [ih]⟩
      · refine .inr ⟨fun h => ?_, by rw [ih]; rfl⟩
        rcases List.mem_cons.mp h with h | h
        · exact e h.symm
        · exact g h
theorem IntD.nil {m : Int} : IntD m [] := ⟨List.nodup_nil, by simp⟩
theorem IntD.put {m : Int} {kvs : List (Key × V)} {s c : Int} (D : IntD m kvs) (h0 : 0 ≤ s) (h1 : s ≤ m) : IntD m (putK kvs (.inl s) (.int c)) := by
  refine ⟨?_, fun p hp => ?_⟩
  · rcases keys_put (k := .inl s) (v := .int c) D.nd with ⟨_, e⟩ | ⟨g, e⟩
    · rw [e]
      exact D.nd
    · rw [e]
      exact List.nodup_append.mpr ⟨D.nd, by simp, fun a ha b hb e => g (by rw [List.mem_singleton] at hb; rw [← hb, ← e]; exact ha)⟩
  · unfold putK at hp
    split at hp
    · obtain ⟨kv, hkv, rfl⟩ := List.mem_map.mp hp
      split
      · rename_i g
        rw [g]
        exact ⟨s, c, rfl, h0, h1⟩
      · exact D.ok kv hkv
    · rcases List.mem_append.mp hp with h | h
      · exact D.ok p h
      · rw [List.mem_singleton.mp h]
        exact ⟨s, c, rfl, h0, h1⟩
theorem IntD.tail {m : Int} {p : Key × V} {r : List (Key × V)} (D : IntD m (p :: r)) : IntD m r := ⟨by have := D.nd; rw [List.map_cons, List.nodup_cons] at this; exact this.2, fun x hx => D.ok x (List.mem_cons_of_mem _ hx)⟩
def oldV (o : Option V) : Int := match o with
  | some (.int c) => c
  | _ => 0
theorem tot_put {m : Int} (f : Int → Int) {s c : Int} : ∀ {kvs : List (Key × V)}, IntD m kvs → tot f (putK kvs (.inl s) (.int c)) = tot f kvs + (c - oldV (valV kvs (.inl s))) * f s
  | [], _ => by
    show c * f s + 0 = 0 + (c - 0) * f s
    simp
  | p :: r, D => by
    have ih := tot_put f (s := s) (c := c) D.tail
    obtain ⟨t, d, rfl, _, _⟩ := D.ok p (List.mem_cons_self ..)
    rw [putK_cons D.nd]
    by_cases e : (Sum.inl t : Key) = .inl s
    · rw [if_pos e, valV_pos (p := ((Sum.inl t : Key), V.int d)) e]
      obtain rfl : t = s := by injection e
      show c * f t + tot f r = d * f t + tot f r + (c - d) * f t
      rw [Int.sub_mul]
      omega
    · rw [if_neg e, valV_neg (p := ((Sum.inl t : Key), V.int d)) e]
      show d * f t + tot f (putK r (.inl s) (.int c)) = d * f t + tot f r + _
      rw [ih]
      omega
theorem tot_app (f : Int → Int) : ∀ a b : List (Key × V), tot f (a ++ b) = tot f a + tot f b
  | [], b => by
    show tot f b = 0 + tot f b
    omega
  | (.inl s, v) :: r, b => by
    show intV v * f s + tot f (r ++ b) = intV v * f s + tot f r + tot f b
    rw [tot_app f r b]
    omega
  | (.inr _, v) :: r, b => tot_app f r b
theorem valV_at {m : Int} : ∀ {kvs : List (Key × V)} {i : Nat} {k : Key} {v : V}, IntD m kvs → kvs[i]? = some (k, v) → valV kvs k = some v
  | [], i, _, _, _, h => by simp at h
  | p :: r, 0, k, v, _, h => by
    cases h
    exact valV_pos (p := (k, v)) rfl
  | p :: r, i + 1, k, v, D, h => by
    have h' : r[i]? = some (k, v) := by simpa using h
    have n := D.nd
    rw [List.map_cons, List.nodup_cons] at n
    rw [valV_neg fun e => n.1 (by rw [e]; exact List.mem_map.mpr ⟨(k, v), List.mem_of_getElem? h', rfl⟩)]
    exact valV_at D.tail h'
/-- whole numbers from 0 to m, each once: not many -/
theorem few_ints : ∀ (m : Nat) (l : List Int), l.Nodup → (∀ x ∈ l, 0 ≤ x ∧ x < m) → l.length ≤ m
  | 0, [], _, _ => Nat.le_refl _
  | 0, a :: r, _, h => by
    have := h a (List.mem_cons_self ..)
    omega
  | m + 1, l, hn, h => by
    have ih := few_ints m (l.erase (m : Int)) (hn.erase _) fun x hx => by
      have h1 := (List.Nodup.mem_erase_iff hn).mp hx
      have h2 := h x h1.2
      have h3 := h1.1
      omega
    have := List.length_erase (a := (m : Int)) (l := l)
    split at this <;> omega
theorem IntD.few {m : Nat} {kvs : List (Key × V)} (D : IntD (m : Int) kvs) : kvs.length ≤ m + 1 := by
  have h := few_ints (m + 1) (kvs.map fun p => match p.1 with | .inl s => s | .inr _ => 0) ?_ ?_
  · rw [List.length_map] at h
    exact h
  · refine List.pairwise_map.mpr ?_
    refine List.Pairwise.imp_of_mem ?_ (List.pairwise_map.mp D.nd)
    intro a b ha hb hne
    obtain ⟨s, c, rfl, _⟩ := D.ok a ha
    obtain ⟨t, d, rfl, _⟩ := D.ok b hb
    intro e
    exact hne (congrArg Sum.inl e)
  · intro x hx
    obtain ⟨p, hp, rfl⟩ := List.mem_map.mp hx
    obtain ⟨s, c, rfl, h0, h1⟩ := D.ok p hp
    exact ⟨h0, by show s < ((m + 1 : Nat) : Int); omega⟩
/-! ### the rows of owners -/
def RowsO (H : Hp) (rs : List Addr) (z : Int) (ns : List Str) (es : List En) : Prop := (rs.length : Int) = topB z es + 1 ∧ ∀ (q : Nat) r, rs[q]? = some r → H r = some (.lst ((ownL z ns es (q : Int)).map V.str))
theorem RowsO.same {H H' : Hp} {rs : List Addr} {z : Int} {ns : List Str} {es : List En} (h : RowsO H rs z ns es) (e : Same H H') : RowsO H' rs z ns es := ⟨h.1, fun q r g => e _ _ (h.2 q r g)⟩
theorem prodO_snoc (z : Int) (ns : List Str) (es : List En) : ∀ (k : Nat) (q : Int), prodO z ns es q (k + 1) = prodO z ns es q k * ((ownL z ns es (q + k)).length : Int)
  | 0, q => by
    show ((ownL z ns es q).length : Int) * 1 = 1 * ((ownL z ns es (q + (0 : Nat))).length : Int)
    rw [show q + ((0 : Nat) : Int) = q by omega]
    omega
  | k + 1, q => by
    have ih := prodO_snoc z ns es k (q + 1)
    show ((ownL z ns es q).length : Int) * prodO z ns es (q + 1) (k + 1) = ((ownL z ns es q).length : Int) * prodO z ns es (q + 1) k * ((ownL z ns es (q + ((k + 1 : Nat) : Int))).length : Int)
    rw [ih, Int.mul_assoc, show q + 1 + (k : Int) = q + ((k + 1 : Nat) : Int) by omega]
theorem own_len {z q : Int} {ns : List Str} {es : List En} : (ownL z ns es q).length ≤ ns.length := List.length_filter_le _ _
theorem prodO_bd {z : Int} {ns : List Str} {es : List En} (h : ns.length ≤ 12) : ∀ (k : Nat) (q : Int), 0 ≤ prodO z ns es q k ∧ prodO z ns es q k ≤ 12 ^ k
  | 0, _ => ⟨by show (0 : Int) ≤ 1; decide, Int.le_refl _⟩
  | k + 1, q => by
    have ih := prodO_bd (z := z) (es := es) h k (q + 1)
    have l := own_len (z := z) (q := q) (ns := ns) (es := es)
    have e : (12 : Int) ^ (k + 1) = 12 * 12 ^ k := by rw [Int.pow_succ, Int.mul_comm]
    show 0 ≤ ((ownL z ns es q).length : Int) * prodO z ns es (q + 1) k ∧ ((ownL z ns es q).length : Int) * prodO z ns es (q + 1) k ≤ 12 ^ (k + 1)
    rw [e]
    exact ⟨Int.mul_nonneg (by omega) ih.1, Int.mul_le_mul (by omega) ih.2 ih.1 (by decide)⟩
theorem pow12 {k : Nat} (h : k ≤ 201) : (12 : Int) ^ k ≤ 12 ^ 201 := by
  have e : (12 : Int) ^ 201 = 12 ^ k * 12 ^ (201 - k) := by rw [← Int.pow_add, show k + (201 - k) = 201 by omega]
  rw [e]
  have h1 : (1 : Int) ≤ 12 ^ (201 - k) := Int.pow_pos (by decide)
  have h2 : (0 : Int) ≤ 12 ^ k := Int.le_of_lt (Int.pow_pos (by decide))
  have := Int.mul_le_mul_of_nonneg_left h1 h2
  omega
set_option exponentiation.threshold 3000 in
theorem mul12 {i j : Int} (h0 : 0 ≤ i) (h1 : i ≤ 12 ^ 201) (g0 : 0 ≤ j) (g1 : j ≤ 1000) : CMulW i j :=
  wide_mul (a := 800) (b := 20) (Nat.lt_of_le_of_lt (show i.natAbs ≤ 12 ^ 201 by omega) (by decide +kernel)) (Nat.lt_of_le_of_lt (show j.natAbs ≤ 1000 by omega) (by decide)) (by decide) (by decide) (by decide)
set_option exponentiation.threshold 3000 in
theorem log12 {i : Int} (h0 : 0 ≤ i) (h1 : i ≤ 12 ^ 201) : i.natAbs.log2 < 1920 := by
  by_cases e : i.natAbs = 0
  · rw [e]
    decide
  · exact Nat.lt_of_lt_of_le ((Nat.log2_lt e).mpr (Nat.lt_of_le_of_lt (show i.natAbs ≤ 12 ^ 201 by omega) (by decide +kernel : (12 : Nat) ^ 201 < 2 ^ 800))) (by decide)
theorem cnt_bd {z : Int} {ns : List Str} {es : List En} (h : ns.length ≤ 12) (ht : topB z es ≤ 200) : 0 ≤ cntO z ns es ∧ cntO z ns es ≤ 12 ^ 201 := by
  have b := prodO_bd (z := z) (es := es) h (topB z es + 1).toNat 0
  exact ⟨b.1, Int.le_trans b.2 (pow12 (by omega))⟩
def sp_owners_by_block (K : PySem.W.Frag) : Sp := fun vs H Q _ => ∃ p b z ns es, vs = [.ref p] ∧ LogAt K H p b z ns es ∧ topB z es ≤ 200 ∧ obsD z ns es = .none ∧ ∀ a rs H', H a = none → Same H H' → H' a = some (.lst (rs.map V.ref)) → RowsO H' rs z ns es → Q (.ref a) H'
def sp_count_rows (_ : PySem.W.Frag) : Sp := fun vs H Q _ => ∃ (a : Addr) (rs : List Addr) (z : Int) (ns : List Str) (es : List En), vs = [.ref a] ∧ H a = some (.lst (rs.map V.ref)) ∧ RowsO H rs z ns es ∧ topB z es ≤ 200 ∧ ns.length ≤ 12 ∧ ∀ H', Same H H' → Q (.int (cntO z ns es)) H'
def sp_count_lists (K : PySem.W.Frag) : Sp := fun vs H Q _ => ∃ p b z ns es, vs = [.ref p] ∧ LogAt K H p b z ns es ∧ topB z es ≤ 200 ∧ obsD z ns es = .none ∧ ∀ H', Same H H' → Q (.int (cntO z ns es)) H'
end NbAa

set_option Elab.async false
set_option linter.all false
set_option maxRecDepth 100000
set_option maxHeartbeats 4000000
/-! Lists of owners by their numbers; logs with an entry less, servers in another sequence, one more server, blocks ahead: who owns what. -/
namespace NbAb
open PySem PySem.Spec PyProof.Rows L2 Nb NbE NbS NbF NbP NbK NbL NbX NbW NbZ NbM NbQ NbC NbG NbH NbI NbJ NbO NbA NbD NbN NbAa
/-! ### numbers with a digit for each row; the last row first -/
abbrev OwnR := List (List Str)
def lenP : OwnR → Int
  | [] => 1
  | o :: r => (o.length : Int) * lenP r
def nthR : OwnR → Int → List Str
  | [], _ => []
  | o :: r, i => o.getD (i % (o.length : Int)).toNat "" :: nthR r (i / (o.length : Int))
def idxR : OwnR → List Str → Int
  | o :: r, x :: xs => idxR r xs * (o.length : Int) + (o.idxOf x : Int)
  | _, _ => 0
def validR : OwnR → List Str → Prop
  | [], [] => True
  | o :: r, x :: xs => x ∈ o ∧ validR r xs
  | _, _ => False
def goodR (rs : OwnR) : Prop := ∀ o ∈ rs, o ≠ [] ∧ o.Nodup
theorem goodR.tail {o : List Str} {r : OwnR} (h : goodR (o :: r)) : goodR r := fun x hx => h x (List.mem_cons_of_mem _ hx)
theorem goodR.len {o : List Str} {r : OwnR} (h : goodR (o :: r)) : 0 < (o.length : Int) := by
  have := List.length_pos_iff.mpr (h o (List.mem_cons_self ..)).1
  omega
theorem lenP_pos : ∀ {rs : OwnR}, goodR rs → 1 ≤ lenP rs
  | [], _ => Int.le_refl _
  | o :: r, h => by
    have h1 := lenP_pos h.tail
    have h2 := h.len
    have := Int.mul_le_mul (show (1 : Int) ≤ (o.length : Int) by omega) h1 (by decide) (by omega)
    show 1 ≤ (o.length : Int) * lenP r
    omega
theorem nthR_len : ∀ (rs : OwnR) (i : Int), (nthR rs i).length = rs.length
  | [], _ => rfl
  | o :: r, i => by
    show (nthR r _).length + 1 = r.length + 1
    rw [nthR_len]
theorem getD_in {o : List Str} {k : Nat} (h : k < o.length) : o.getD k "" ∈ o := by
  rw [List.getD_eq_getElem?_getD, List.getElem?_eq_getElem h]
  exact List.getElem_mem h
theorem nthR_valid : ∀ {rs : OwnR} (i : Int), goodR rs → validR rs (nthR rs i)
  | [], _, _ => trivial
  | o :: r, i, h => by
    refine ⟨getD_in ?_, nthR_valid _ h.tail⟩
    have h1 := Int.emod_nonneg i (show (o.length : Int) ≠ 0 by have := h.len; omega)
    have h2 := Int.emod_lt_of_pos i h.len
    omega
theorem idxOf_getD {o : List Str} {k : Nat} (hn : o.Nodup) (h : k < o.length) : o.idxOf (o.getD k "") = k := by
  rw [List.getD_eq_getElem?_getD, List.getElem?_eq_getElem h]
  exact hn.idxOf_getElem k h
theorem idx_nth : ∀ {rs : OwnR} {i : Int}, goodR rs → 0 ≤ i → i < lenP rs → idxR rs (nthR rs i) = i
  | [], i, _, h0, h1 => by
    show (0 : Int) = i
    have : i < 1 := h1
    omega
  | o :: r, i, h, h0, h1 => by
    have hl := h.len
    have m0 := Int.emod_nonneg i (show (o.length : Int) ≠ 0 by omega)
    have m1 := Int.emod_lt_of_pos i hl
    have d0 := Int.ediv_nonneg h0 (Int.le_of_lt hl)
    have d1 : i / (o.length : Int) < lenP r := Int.ediv_lt_of_lt_mul hl (by rw [Int.mul_comm]; exact h1)
    show idxR r (nthR r (i / (o.length : Int))) * (o.length : Int) + ((o.idxOf (o.getD (i % (o.length : Int)).toNat "") : Nat) : Int) = i
    rw [idx_nth h.tail d0 d1, idxOf_getD (h o (List.mem_cons_self ..)).2 (by omega)]
    have := Int.ediv_mul_add_emod i (o.length : Int)
    omega
theorem idx_bd : ∀ {rs : OwnR} {xs : List Str}, goodR rs → validR rs xs → 0 ≤ idxR rs xs ∧ idxR rs xs < lenP rs
  | [], [], _, _ => ⟨Int.le_refl _, by show (0 : Int) < 1; decide⟩
  | o :: r, x :: xs, h, hv => by
    have ih := idx_bd h.tail hv.2
    have hi := List.idxOf_lt_length_of_mem hv.1
    have hl := h.len
    show 0 ≤ idxR r xs * (o.length : Int) + (o.idxOf x : Int) ∧ idxR r xs * (o.length : Int) + (o.idxOf x : Int) < (o.length : Int) * lenP r
    have h1 := Int.mul_nonneg ih.1 (Int.le_of_lt hl)
    have h2 := Int.mul_le_mul_of_nonneg_right (show idxR r xs + 1 ≤ lenP r by omega) (Int.le_of_lt hl)
    rw [Int.add_mul, Int.one_mul, Int.mul_comm (lenP r)] at h2
    omega
  | [], _ :: _, _, hv => hv.elim
  | _ :: _, [], _, hv => hv.elim
theorem at_idx {x : Str} : ∀ {o : List Str}, x ∈ o → o[o.idxOf x]? = some x
  | [], h => by cases h
  | a :: r, h => by
    rw [List.idxOf_cons]
    by_cases e : a = x
    · subst e
      simp
    · have h' : x ∈ r := by
        rcases List.mem_cons.mp h with h | h
        · exact absurd h.symm e
        · exact h
      have eb : (a == x) = false := by simpa using e
      rw [eb]
      show (a :: r)[r.idxOf x + 1]? = some x
      rw [List.getElem?_cons_succ]
      exact at_idx h'
theorem nth_idx : ∀ {rs : OwnR} {xs : List Str}, goodR rs → validR rs xs → nthR rs (idxR rs xs) = xs
  | [], [], _, _ => rfl
  | o :: r, x :: xs, h, hv => by
    have hi := List.idxOf_lt_length_of_mem hv.1
    have hl := h.len
    have e1 : (idxR r xs * (o.length : Int) + (o.idxOf x : Int)) % (o.length : Int) = (o.idxOf x : Int) := by
      rw [Int.add_comm, Int.add_mul_emod_self_right]
      exact Int.emod_eq_of_lt (by omega) (by omega)
    have e2 : (idxR r xs * (o.length : Int) + (o.idxOf x : Int)) / (o.length : Int) = idxR r xs := by
      rw [Int.add_comm, Int.add_mul_ediv_right _ _ (by omega), Int.ediv_eq_zero_of_lt (by omega) (by omega)]
      omega
    show o.getD ((idxR r xs * (o.length : Int) + (o.idxOf x : Int)) % (o.length : Int)).toNat "" :: nthR r ((idxR r xs * (o.length : Int) + (o.idxOf x : Int)) / (o.length : Int)) = x :: xs
    rw [e1, e2, nth_idx h.tail hv.2, Int.toNat_natCast, List.getD_eq_getElem?_getD, at_idx hv.1]
    rfl
  | [], _ :: _, _, hv => hv.elim
  | _ :: _, [], _, hv => hv.elim
/-- the last list: the last of each row -/
theorem nth_last : ∀ {rs : OwnR}, goodR rs → nthR (rs.map List.reverse) 0 = nthR rs (lenP rs - 1)
  | [], _ => rfl
  | o :: r, h => by
    have hl := h.len
    have hp := lenP_pos h.tail
    have ih := nth_last h.tail
    have hk : (o.length : Int) * lenP r - 1 = (lenP r - 1) * (o.length : Int) + ((o.length : Int) - 1) := by
      rw [Int.sub_mul, Int.one_mul, Int.mul_comm]
      omega
    have e1 : ((o.length : Int) * lenP r - 1) % (o.length : Int) = (o.length : Int) - 1 := by
      rw [hk, Int.add_comm, Int.add_mul_emod_self_right]
      exact Int.emod_eq_of_lt (by omega) (by omega)
    have e2 : ((o.length : Int) * lenP r - 1) / (o.length : Int) = lenP r - 1 := by
      rw [hk, Int.add_comm, Int.add_mul_ediv_right _ _ (by omega), Int.ediv_eq_zero_of_lt (by omega) (by omega)]
      omega
    show o.reverse.getD ((0 : Int) % ((o.reverse.length : Nat) : Int)).toNat "" :: nthR (r.map List.reverse) ((0 : Int) / ((o.reverse.length : Nat) : Int)) = o.getD (((o.length : Int) * lenP r - 1) % (o.length : Int)).toNat "" :: nthR r (((o.length : Int) * lenP r - 1) / (o.length : Int))
    rw [e1, e2, Int.zero_emod, Int.zero_ediv, ih, List.getD_eq_getElem?_getD, List.getD_eq_getElem?_getD]
    congr 2
    rw [List.getElem?_reverse (by simp; omega)]
    congr 1
    show o.length - 1 - (0 : Int).toNat = _
    have : (0 : Int).toNat = 0 := rfl
    omega
theorem idx_app : ∀ {as bs : OwnR} {xs ys : List Str}, as.length = xs.length → idxR (as ++ bs) (xs ++ ys) = idxR bs ys * lenP as + idxR as xs
  | [], bs, [], ys, _ => by
    show idxR bs ys = idxR bs ys * 1 + 0
    omega
  | o :: r, bs, x :: xs, ys, h => by
    have ih := idx_app (as := r) (bs := bs) (xs := xs) (ys := ys) (by simpa using h)
    show idxR (r ++ bs) (xs ++ ys) * (o.length : Int) + (o.idxOf x : Int) = idxR bs ys * ((o.length : Int) * lenP r) + (idxR r xs * (o.length : Int) + (o.idxOf x : Int))
    rw [ih, Int.add_mul, Int.mul_assoc, Int.mul_comm (lenP r)]
    omega
  | [], _, _ :: _, _, h => by simp at h
  | _ :: _, _, [], _, h => by simp at h
theorem valid_app : ∀ {as bs : OwnR} {xs ys : List Str}, validR as xs → validR bs ys → validR (as ++ bs) (xs ++ ys)
  | [], _, [], _, _, h => h
  | _ :: _, _, _ :: _, _, h, k => ⟨h.1, valid_app h.2 k⟩
  | [], _, _ :: _, _, h, _ => h.elim
  | _ :: _, _, [], _, h, _ => h.elim
theorem lenP_app : ∀ as bs : OwnR, lenP (as ++ bs) = lenP as * lenP bs
  | [], bs => by
    show lenP bs = 1 * lenP bs
    omega
  | o :: r, bs => by
    show (o.length : Int) * lenP (r ++ bs) = (o.length : Int) * lenP r * lenP bs
    rw [lenP_app r bs, Int.mul_assoc]
theorem valid_len : ∀ {rs : OwnR} {xs : List Str}, validR rs xs → xs.length = rs.length
  | [], [], _ => rfl
  | _ :: _, _ :: _, h => by
    show _ + 1 = _ + 1
    rw [valid_len h.2]
  | [], _ :: _, h => h.elim
  | _ :: _, [], h => h.elim
theorem valid_sub : ∀ {as bs : OwnR} {xs : List Str}, as.length = bs.length → (∀ (i : Nat) a b, as[i]? = some a → bs[i]? = some b → ∀ x ∈ a, x ∈ b) → validR as xs → validR bs xs
  | [], [], [], _, _, _ => trivial
  | a :: as, b :: bs, x :: xs, hl, h, hv => ⟨h 0 a b rfl rfl x hv.1, valid_sub (by simpa using hl) (fun i a b h1 h2 => h (i + 1) a b (by simpa using h1) (by simpa using h2)) hv.2⟩
  | [], _ :: _, _, hl, _, _ => by simp at hl
  | _ :: _, [], _, hl, _, _ => by simp at hl
  | [], [], _ :: _, _, _, hv => hv.elim
  | _ :: _, _ :: _, [], _, _, hv => hv.elim
/-! ### the rows of a log -/
def rowsO (z : Int) (ns : List Str) (es : List En) : OwnR := (List.range (topB z es + 1).toNat).map fun (q : Nat) => ownL z ns es (q : Int)
def nthO (z : Int) (ns : List Str) (es : List En) (i : Int) : List Str := (nthR (rowsO z ns es).reverse i).reverse
def idxO (z : Int) (ns : List Str) (es : List En) (xs : List Str) : Int := idxR (rowsO z ns es).reverse xs.reverse
def validO (z : Int) (ns : List Str) (es : List En) (xs : List Str) : Prop := validR (rowsO z ns es).reverse xs.reverse
theorem rowsO_len {z : Int} {ns : List Str} {es : List En} : (rowsO z ns es).length = (topB z es + 1).toNat := by
  unfold rowsO
  rw [List.length_map, List.length_range]
theorem rowsO_get {z : Int} {ns : List Str} {es : List En} {q : Nat} (h : q < (topB z es + 1).toNat) : (rowsO z ns es)[q]? = some (ownL z ns es (q : Int)) := by
  unfold rowsO
  rw [List.getElem?_map, List.getElem?_range h]
  rfl
theorem lenP_rev : ∀ as : OwnR, lenP as.reverse = lenP as
  | [] => rfl
  | o :: r => by
    rw [List.reverse_cons, lenP_app, lenP_rev r]
    show lenP r * ((o.length : Int) * 1) = (o.length : Int) * lenP r
    rw [Int.mul_one, Int.mul_comm]
theorem lenP_prod {z : Int} {ns : List Str} {es : List En} : ∀ k : Nat, lenP ((List.range k).map fun (q : Nat) => ownL z ns es (q : Int)) = prodO z ns es 0 k
  | 0 => rfl
  | k + 1 => by
    rw [List.range_succ, List.map_append, lenP_app, lenP_prod k, prodO_snoc, show (0 : Int) + (k : Int) = k by omega]
    show _ * ((ownL z ns es (k : Int)).length * (1 : Int)) = _
    rw [Int.mul_one]
theorem lenP_rows {z : Int} {ns : List Str} {es : List En} : lenP (rowsO z ns es).reverse = cntO z ns es := by
  rw [lenP_rev]
  exact lenP_prod _
theorem own_nodup {z q : Int} {ns : List Str} {es : List En} (h : ns.Nodup) : (ownL z ns es q).Nodup := h.filter _
section
variable {z : Int} {ns : List Str} {es : List En}
theorem good_rows (hz : 1 ≤ z) (pos : ∀ e ∈ es, 0 ≤ e.2) (ho : obsD z ns es = .none) (hn : ns.Nodup) : goodR (rowsO z ns es).reverse := fun o hm => by
  obtain ⟨_, P⟩ := (poss_iff hz pos).mp ho
  obtain ⟨q, hq, rfl⟩ := List.mem_map.mp (List.mem_reverse.mp hm)
  have := List.mem_range.mp hq
  exact ⟨own_some P (by omega) (by omega), own_nodup hn⟩
end
/-! ### slots of alike logs -/
section
variable {z q k : Int} {ns ms : List Str} {es : List En} {n : Str}
theorem slO_some_iff : (slO z ns es n q).isSome = true ↔ ∃ k, SlW z es n q k ∧ eI z ns es q ≤ k ∧ k ≤ lI z ns es q := slO_iff
/-- servers in another sequence -/
theorem eI_perm (h : ∀ s, s ∈ ns ↔ s ∈ ms) : eI z ns es q = eI z ms es q := eI_congr rfl (fun q _ k => by
  rw [inW_iff, inW_iff]
  exact ⟨fun ⟨s, a, b⟩ => ⟨s, (h s).mp a, b⟩, fun ⟨s, a, b⟩ => ⟨s, (h s).mpr a, b⟩⟩) _
theorem lI_perm (h : ∀ s, s ∈ ns ↔ s ∈ ms) : lI z ns es q = lI z ms es q := lI_congr rfl rfl (fun q k => by
  rw [inW_iff, inW_iff]
  exact ⟨fun ⟨s, a, b⟩ => ⟨s, (h s).mp a, b⟩, fun ⟨s, a, b⟩ => ⟨s, (h s).mpr a, b⟩⟩) _
theorem slO_perm (h : ∀ s, s ∈ ns ↔ s ∈ ms) : slO z ns es n q = slO z ms es n q := by
  unfold slO
  rw [eI_perm h, lI_perm h]
theorem mem_rev (ns : List Str) (s : Str) : s ∈ ns.reverse ↔ s ∈ ns := List.mem_reverse
theorem own_rev : ownL z ns.reverse es q = (ownL z ns es q).reverse := by
  unfold ownL
  rw [List.filter_reverse]
  congr 1
  refine List.filter_congr fun n _ => ?_
  rw [slO_perm (mem_rev ns)]
theorem poss_rev (hz : 1 ≤ z) (pos : ∀ e ∈ es, 0 ≤ e.2) (ho : obsD z ns es = .none) : obsD z ns.reverse es = .none := (poss_more hz pos (fun s hs => List.mem_reverse.mpr hs) ho).1
theorem rows_rev : rowsO z ns.reverse es = (rowsO z ns es).map List.reverse := by
  unfold rowsO
  rw [List.map_map]
  refine List.map_congr_left fun q _ => ?_
  exact own_rev
theorem lenP_mrev : ∀ rs : OwnR, lenP (rs.map List.reverse) = lenP rs
  | [] => rfl
  | o :: r => by
    show (o.reverse.length : Int) * lenP (r.map List.reverse) = (o.length : Int) * lenP r
    rw [lenP_mrev r, List.length_reverse]
theorem cnt_rev : cntO z ns.reverse es = cntO z ns es := by
  rw [← lenP_rows, ← lenP_rows, lenP_rev, lenP_rev, rows_rev, lenP_mrev]
theorem nth_rev (hg : goodR (rowsO z ns es).reverse) : nthO z ns.reverse es 0 = nthO z ns es (cntO z ns es - 1) := by
  unfold nthO
  rw [rows_rev, ← List.map_reverse, nth_last hg, lenP_rows]
/-- more servers -/
theorem slO_more (hz : 1 ≤ z) (pos : ∀ e ∈ es, 0 ≤ e.2) (h : ∀ s ∈ ns, s ∈ ms) (ho : obsD z ns es = .none) (h0 : 0 ≤ q) (h1 : q ≤ topB z es) (hs : (slO z ns es n q).isSome = true) : (slO z ms es n q).isSome = true := by
  obtain ⟨k, a, b, c⟩ := slO_iff.mp hs
  obtain ⟨d, e⟩ := (poss_more hz pos h ho).2 q h0 h1
  exact slO_iff.mpr ⟨k, a, by omega, by omega⟩
theorem own_more (hz : 1 ≤ z) (pos : ∀ e ∈ es, 0 ≤ e.2) (h : ∀ s ∈ ns, s ∈ ms) (ho : obsD z ns es = .none) (h0 : 0 ≤ q) (h1 : q ≤ topB z es) : ∀ s ∈ ownL z ns es q, s ∈ ownL z ms es q := fun s hs => by
  obtain ⟨a, b⟩ := List.mem_filter.mp hs
  exact List.mem_filter.mpr ⟨h s a, slO_more hz pos h ho h0 h1 b⟩
theorem filt_le {α : Type} {p r : α → Bool} : ∀ {l : List α}, (∀ x ∈ l, p x = true → r x = true) → (l.filter p).length ≤ (l.filter r).length
  | [], _ => Nat.le_refl _
  | a :: l, h => by
    have ih := filt_le (l := l) fun x hx => h x (List.mem_cons_of_mem _ hx)
    by_cases hp : p a = true
    · rw [List.filter_cons_of_pos hp, List.filter_cons_of_pos (h a (List.mem_cons_self ..) hp), List.length_cons, List.length_cons]
      omega
    · rw [List.filter_cons_of_neg hp]
      by_cases hr : r a = true
      · rw [List.filter_cons_of_pos hr, List.length_cons]
        omega
      · rw [List.filter_cons_of_neg hr]
        exact ih
theorem prodO_le {z z' : Int} {ns ns' : List Str} {es es' : List En} : ∀ (k : Nat) (q : Int), (∀ x, q ≤ x → x < q + k → (ownL z ns es x).length ≤ (ownL z' ns' es' x).length) → prodO z ns es q k ≤ prodO z' ns' es' q k ∧ 0 ≤ prodO z ns es q k
  | 0, _, _ => ⟨Int.le_refl _, by show (0 : Int) ≤ 1; decide⟩
  | k + 1, q, h => by
    obtain ⟨a, b⟩ := prodO_le k (q + 1) fun x h1 h2 => h x (by omega) (by omega)
    have c := h q (Int.le_refl _) (by omega)
    show ((ownL z ns es q).length : Int) * prodO z ns es (q + 1) k ≤ ((ownL z' ns' es' q).length : Int) * prodO z' ns' es' (q + 1) k ∧ _
    exact ⟨Int.mul_le_mul (by omega) a b (by omega), Int.mul_nonneg (by omega) b⟩
theorem cnt_more (hz : 1 ≤ z) (pos : ∀ e ∈ es, 0 ≤ e.2) (x : Str) (ho : obsD z ns es = .none) : cntO z ns es ≤ cntO z (ns ++ [x]) es := by
  refine (prodO_le _ 0 fun q h0 h1 => ?_).1
  have ht := top_ge hz pos
  unfold ownL
  rw [List.filter_append, List.length_append]
  have := filt_le (l := ns) (p := fun n => (slO z ns es n q).isSome) (r := fun n => (slO z (ns ++ [x]) es n q).isSome) fun n hn hs => slO_more hz pos (fun s hs => List.mem_append_left _ hs) ho h0 (by omega) hs
  omega
/-- some entries left out -/
theorem slW_keep {fl : List Bool} (hl : fl.length = es.length) (h : SlW z es n q k) : SlW z (NbQ.keep fl es) n q (cnt fl k.toNat : Int) := by
  have k0 := h.k0
  refine ⟨by omega, ?_, fun i e hi hq => ?_, fun i e hi hn hq => ?_, fun i e hi hn hq => ?_⟩
  · have := cnt_mono fl (show k.toNat ≤ es.length by have := h.k1; omega)
    rw [keep_len hl (Nat.le_refl _)] at this
    omega
  · obtain ⟨j, g1, _, _⟩ := keep_get hi
    exact h.own j e g1 hq
  · obtain ⟨j, g1, g2, g3⟩ := keep_get hi
    have := h.lo j e g1 hn hq
    have := cnt_lt (fl := fl) (show j < k.toNat by omega) g2
    omega
  · obtain ⟨j, g1, g2, g3⟩ := keep_get hi
    have := h.hi j e g1 hn hq
    have := cnt_mono fl (show k.toNat ≤ j by omega)
    omega
theorem inW_keep {fl : List Bool} (hl : fl.length = es.length) (h : InW z ns es q k) : InW z ns (NbQ.keep fl es) q (cnt fl k.toNat : Int) := by
  obtain ⟨s, hs, h⟩ := inW_iff.mp h
  exact inW_iff.mpr ⟨s, hs, slW_keep hl h⟩
theorem el_keep {fl : List Bool} (hl : fl.length = es.length) (P : ∀ q, 0 ≤ q → q ≤ topB z es → eI z ns es q ≤ (es.length : Int)) (ht : topB z (NbQ.keep fl es) ≤ topB z es) (h0 : 0 ≤ q) (h1 : q ≤ topB z (NbQ.keep fl es)) :
    eI z ns (NbQ.keep fl es) q ≤ (cnt fl (eI z ns es q).toNat : Int) ∧ (cnt fl (lI z ns es q).toNat : Int) ≤ lI z ns (NbQ.keep fl es) q := by
  constructor
  · refine e_least' (g := fun q => (cnt fl (eI z ns es q).toNat : Int)) (f := q) (by omega) (fun x x0 x1 => ?_) (fun x x0 x1 => inW_keep hl (eI_in P x0 (by omega))) h0 (Int.le_refl _)
    have a := eI_up (z := z) (ns := ns) (es := es) x0
    have b := eI_pos (z := z) (ns := ns) (es := es) (q := x)
    have := cnt_mono fl (show (eI z ns es x).toNat ≤ (eI z ns es (x + 1)).toNat by omega)
    show ((cnt fl (eI z ns es x).toNat : Nat) : Int) ≤ ((cnt fl (eI z ns es (x + 1)).toNat : Nat) : Int)
    omega
  · refine l_most' (g := fun q => (cnt fl (lI z ns es q).toNat : Int)) (fun x x0 x1 => ?_) (fun x x0 x1 => inW_keep hl (lI_in P x0 (by omega))) h0 h1
    have a := lI_up P x0 (show x < topB z es by omega)
    have := cnt_mono fl (show (lI z ns es x).toNat ≤ (lI z ns es (x + 1)).toNat by omega)
    show ((cnt fl (lI z ns es x).toNat : Nat) : Int) ≤ ((cnt fl (lI z ns es (x + 1)).toNat : Nat) : Int)
    omega
theorem slO_keep {fl : List Bool} (hl : fl.length = es.length) (P : ∀ q, 0 ≤ q → q ≤ topB z es → eI z ns es q ≤ (es.length : Int)) (ht : topB z (NbQ.keep fl es) ≤ topB z es) (h0 : 0 ≤ q) (h1 : q ≤ topB z (NbQ.keep fl es)) (hs : (slO z ns es n q).isSome = true) : (slO z ns (NbQ.keep fl es) n q).isSome = true := by
  obtain ⟨k, a, b, c⟩ := slO_iff.mp hs
  obtain ⟨d, e⟩ := el_keep hl P ht h0 h1
  have ep := eI_pos (z := z) (ns := ns) (es := es) (q := q)
  have m1 := cnt_mono fl (show (eI z ns es q).toNat ≤ k.toNat by omega)
  have m2 := cnt_mono fl (show k.toNat ≤ (lI z ns es q).toNat by omega)
  exact slO_iff.mpr ⟨_, slW_keep hl a, by omega, by omega⟩
theorem cnt_keep {fl : List Bool} (hl : fl.length = es.length) (P : ∀ q, 0 ≤ q → q ≤ topB z es → eI z ns es q ≤ (es.length : Int)) (ht : topB z (NbQ.keep fl es) = topB z es) : cntO z ns es ≤ cntO z ns (NbQ.keep fl es) := by
  unfold cntO
  rw [ht]
  exact (prodO_le _ 0 fun q h0 h1 => filt_le fun n _ hs => slO_keep hl P (by omega) h0 (by omega) hs).1
theorem keep_sub {α : Type} : ∀ {fl : List Bool} {es : List α} {e : α}, e ∈ NbQ.keep fl es → e ∈ es
  | [], es, e, h => by cases es <;> cases h
  | b :: fl, [], e, h => by cases h
  | b :: fl, x :: es, e, h => by
    unfold NbQ.keep at h
    split at h
    · rcases List.mem_cons.mp h with rfl | h
      · exact List.mem_cons_self ..
      · exact List.mem_cons_of_mem _ (keep_sub h)
    · exact List.mem_cons_of_mem _ (keep_sub h)
theorem top_keep {fl : List Bool} (hz : 1 ≤ z) (pos : ∀ e ∈ es, 0 ≤ e.2) : topB z (NbQ.keep fl es) ≤ topB z es := by
  have := top_ge hz pos
  rcases top_mem (es := NbQ.keep fl es) hz (fun e he => pos e (keep_sub he)) with ⟨_, h⟩ | ⟨_, e, he, h⟩
  · omega
  · rw [← h]
    exact topB_le (keep_sub he)
/-- an entry left out -/
def dropF (n i : Nat) : List Bool := List.replicate i true ++ false :: List.replicate (n - i - 1) true
theorem dropF_len {n i : Nat} (h : i < n) : (dropF n i).length = n := by
  unfold dropF
  rw [List.length_append, List.length_replicate, List.length_cons, List.length_replicate]
  omega
theorem keep_true {α : Type} : ∀ (es : List α), NbQ.keep (List.replicate es.length true) es = es
  | [] => rfl
  | e :: es => by
    show (if true = true then e :: NbQ.keep (List.replicate es.length true) es else _) = _
    rw [if_pos rfl, keep_true es]
theorem keep_drop {α : Type} : ∀ (es : List α) (i : Nat), i < es.length → NbQ.keep (dropF es.length i) es = es.take i ++ es.drop (i + 1)
  | [], i, h => by simp at h
  | e :: es, 0, h => by
    show (if false = true then _ else NbQ.keep (List.replicate (es.length + 1 - 0 - 1) true) es) = _
    rw [if_neg (by decide), show es.length + 1 - 0 - 1 = es.length by omega, keep_true]
    rfl
  | e :: es, i + 1, h => by
    have ih := keep_drop es i (by simpa using h)
    have e1 : dropF (e :: es).length (i + 1) = true :: dropF es.length i := by
      unfold dropF
      rw [List.length_cons, List.replicate_succ, show es.length + 1 - (i + 1) - 1 = es.length - i - 1 by omega]
      rfl
    rw [e1]
    show (if true = true then e :: NbQ.keep (dropF es.length i) es else _) = _
    rw [if_pos rfl, ih]
    rfl
end
/-! ### all blocks some later -/
section
variable {z q : Int} {ns : List Str} {es : List En} {b : Nat}
def later (z : Int) (b : Nat) (es : List En) : List En := es.map (addE ((b : Int) * z))
theorem own_later (hz : 1 ≤ z) (hns : ns ≠ []) (pos : ∀ e ∈ es, 0 ≤ e.2) (hne : es ≠ []) (h0 : 0 ≤ q) (h1 : q ≤ topB z es) : ownL z ns (later z b es) (q + b) = ownL z ns es q := by
  have A := alike_add (z := z) (s := (b : Int)) hz
  have bz : 0 ≤ (b : Int) * z := Int.mul_nonneg (by omega) (by omega)
  have pos' : ∀ e ∈ es.map (addE ((b : Int) * z)), 0 ≤ e.2 := fun e he => by
    obtain ⟨e', he', rfl⟩ := List.mem_map.mp he
    have := pos e' he'
    show 0 ≤ e'.2 + (b : Int) * z
    omega
  have pd : ∀ e ∈ es, 0 ≤ e.2 / z := fun e he => Int.ediv_nonneg (pos e he) (by omega)
  unfold ownL later
  refine List.filter_congr fun n _ => ?_
  unfold slO
  rw [A.winO, A.eI' hns (by omega) pd h0, A.lI' (A.topB hz hz pos pos' hne) h1]
theorem own_early (hz : 1 ≤ z) (pos : ∀ e ∈ es, 0 ≤ e.2) (hns : ns ≠ []) (ho : obsD z ns (later z b es) = .none) (h0 : 0 ≤ q) (h1 : q < b) (ht : q ≤ topB z (later z b es)) : ownL z ns (later z b es) q = ns := by
  have A := alike_add (z := z) (s := (b : Int)) hz
  have bz : 0 ≤ (b : Int) * z := Int.mul_nonneg (by omega) (by omega)
  have pos' : ∀ e ∈ later z b es, 0 ≤ e.2 := fun e he => by
    obtain ⟨e', he', rfl⟩ := List.mem_map.mp he
    have := pos e' he'
    show 0 ≤ e'.2 + (b : Int) * z
    omega
  obtain ⟨_, P⟩ := (poss_iff hz pos').mp ho
  have hb : ∀ e ∈ later z b es, (b : Int) - 1 < e.2 / z := fun e he => by
    obtain ⟨e', he', rfl⟩ := List.mem_map.mp he
    have h2 := Int.ediv_nonneg (pos e' he') (show 0 ≤ z by omega)
    show (b : Int) - 1 < (e'.2 + (b : Int) * z) / z
    rw [Int.add_mul_ediv_right _ _ (by omega)]
    omega
  have he := e_low hns hb h0 (by omega)
  have hl := e_le_l' P h0 ht
  refine List.filter_eq_self.mpr fun n hn => slO_iff.mpr ⟨0, ⟨Int.le_refl _, by omega, fun i e hi hq => ?_, fun i e hi _ hq => ?_, fun i e hi _ _ => by omega⟩, by omega, by omega⟩
  · have := hb e (List.mem_of_getElem? hi)
    omega
  · have := hb e (List.mem_of_getElem? hi)
    omega
theorem rows_later (hz : 1 ≤ z) (pos : ∀ e ∈ es, 0 ≤ e.2) (hns : ns ≠ []) (hne : es ≠ []) (ho : obsD z ns (later z b es) = .none) : rowsO z ns (later z b es) = List.replicate b ns ++ rowsO z ns es := by
  have A := alike_add (z := z) (s := (b : Int)) hz
  have bz : 0 ≤ (b : Int) * z := Int.mul_nonneg (by omega) (by omega)
  have pos' : ∀ e ∈ es.map (addE ((b : Int) * z)), 0 ≤ e.2 := fun e he => by
    obtain ⟨e', he', rfl⟩ := List.mem_map.mp he
    have := pos e' he'
    show 0 ≤ e'.2 + (b : Int) * z
    omega
  have ht : topB z (later z b es) = topB z es + b := A.topB hz hz pos pos' hne
  have t0 : 0 ≤ topB z es := by
    rcases top_mem hz pos with ⟨h, _⟩ | ⟨h, _⟩
    · exact absurd h hne
    · exact h
  refine List.ext_getElem? fun i => ?_
  rcases Nat.lt_or_ge i (topB z es + b + 1).toNat with h | h
  · rw [rowsO_get (by rw [ht]; exact h)]
    rcases Nat.lt_or_ge i b with g | g
    · rw [List.getElem?_append_left (by rw [List.length_replicate]; exact g), List.getElem?_replicate, if_pos g, own_early hz pos hns ho (by omega) (by omega) (by omega)]
    · rw [List.getElem?_append_right (by rw [List.length_replicate]; exact g), List.length_replicate, rowsO_get (by omega)]
      have := own_later (q := ((i - b : Nat) : Int)) (b := b) hz hns pos hne (by omega) (by omega)
      rw [← this, show ((i - b : Nat) : Int) + (b : Int) = (i : Int) by omega]
  · rw [List.getElem?_eq_none (by rw [rowsO_len, ht]; exact h), List.getElem?_eq_none (by rw [List.length_append, List.length_replicate, rowsO_len]; omega)]
end
theorem valid_get : ∀ {rs : OwnR} {xs : List Str} {i : Nat} {o : List Str} {x : Str}, validR rs xs → rs[i]? = some o → xs[i]? = some x → x ∈ o
  | o :: r, x :: xs, 0, _, _, h, h1, h2 => by
    cases h1
    cases h2
    exact h.1
  | o :: r, x :: xs, i + 1, _, _, h, h1, h2 => valid_get (i := i) h.2 (by simpa using h1) (by simpa using h2)
  | [], [], i, _, _, _, h1, _ => by simp at h1
  | [], _ :: _, _, _, _, h, _, _ => h.elim
  | _ :: _, [], _, _, _, h, _, _ => h.elim
theorem valid_drop : ∀ {rs : OwnR} {xs : List Str} (k : Nat), validR rs xs → validR (rs.drop k) (xs.drop k)
  | [], [], k, _ => by simp [validR]
  | o :: r, x :: xs, 0, h => h
  | o :: r, x :: xs, k + 1, h => valid_drop k h.2
  | [], _ :: _, _, h => h.elim
  | _ :: _, [], _, h => h.elim
section
variable {z : Int} {ns : List Str} {es : List En} {xs : List Str}
theorem validO_get (h : validO z ns es xs) {j : Nat} {x : Str} (hx : xs[j]? = some x) : x ∈ ownL z ns es (j : Int) := by
  have hl := valid_len h
  rw [List.length_reverse, List.length_reverse, rowsO_len] at hl
  have hj := (List.getElem?_eq_some_iff.mp hx).1
  refine valid_get (i := xs.length - 1 - j) h (o := ownL z ns es (j : Int)) ?_ ?_
  · rw [List.getElem?_reverse (by rw [rowsO_len]; omega), rowsO_len, show (topB z es + 1).toNat - 1 - (xs.length - 1 - j) = j by omega]
    exact rowsO_get (by omega)
  · rw [List.getElem?_reverse (by omega), show xs.length - 1 - (xs.length - 1 - j) = j by omega]
    exact hx
theorem lenP_take {j : Nat} (h : j ≤ (topB z es + 1).toNat) : lenP ((rowsO z ns es).take j).reverse = prodO z ns es 0 j := by
  rw [lenP_rev, ← lenP_prod]
  unfold rowsO
  rw [← List.map_take, List.take_range, Nat.min_eq_left h]
theorem idx_take (hg : goodR (rowsO z ns es).reverse) (h : validO z ns es xs) {j : Nat} (hj : j ≤ (topB z es + 1).toNat) : 0 ≤ idxR ((rowsO z ns es).take j).reverse (xs.take j).reverse ∧ idxR ((rowsO z ns es).take j).reverse (xs.take j).reverse < prodO z ns es 0 j := by
  have hl := valid_len h
  rw [List.length_reverse, List.length_reverse, rowsO_len] at hl
  rw [← lenP_take hj]
  refine idx_bd (fun o ho => hg o ?_) ?_
  · exact List.mem_reverse.mpr (List.mem_of_mem_take (List.mem_reverse.mp ho))
  · rw [List.reverse_take, List.reverse_take, rowsO_len, hl]
    exact valid_drop _ h
end
/-! ### promises -/
theorem idx_min {x : Str} : ∀ {o : List Str} {m : Nat} {y : Str}, m < o.idxOf x → o[m]? = some y → y ≠ x
  | [], m, y, h, _ => by simp at h
  | a :: r, m, y, h, hy => by
    rw [List.idxOf_cons] at h
    by_cases e : a = x
    · have eb : (a == x) = true := by simpa using e
      rw [eb] at h
      exact absurd h (Nat.not_lt_zero _)
    · have eb : (a == x) = false := by simpa using e
      rw [eb] at h
      replace h : m < r.idxOf x + 1 := h
      cases m with
      | zero =>
        cases hy
        exact e
      | succ m => exact idx_min (show m < r.idxOf x by omega) (by simpa using hy)
theorem loop_rev {K : PySem.W.Frag} {a : Addr} {g : TG} {tb : TS} {D : Ends} {σ : L2.St} {H : Hp} (xs : List V) (Pv : Nat → L2.St → Hp → Prop) (h0 : Pv 0 σ H) (hl : ∀ i σ' H', i ≤ xs.length → Pv i σ' H' → SqL K H' a xs)
    (hs : ∀ (i : Nat) x σ' H', xs.reverse[i]? = some x → Pv i σ' H' → g x σ' H' fun σ2 H2 => tb { D with nx := Pv (i + 1), ct := Pv (i + 1), bk := D.nx } σ2 H2) (hd : ∀ σ' H', Pv xs.length σ' H' → D.nx σ' H') : LoopR (Itv K a xs.length) g tb D σ H := by
  refine ⟨fun i m σ' H' => m = xs.length - i ∧ i ≤ xs.length ∧ Pv i σ' H', ⟨_, rfl, Nat.zero_le _, h0⟩, ?_⟩
  rintro i m σ' H' ⟨rfl, hi, p⟩
  have q := hl i σ' H' hi p
  by_cases hlt : i < xs.length
  · refine .inr ⟨⟨hlt, xs, xs[xs.length - 1 - i]'(by omega), q, List.getElem?_eq_getElem _⟩, Pv (i + 1), fun σ2 H2 p' => ⟨_, by omega, rfl, hlt, p'⟩, fun x H2 y => ?_⟩
    obtain ⟨rfl, y⟩ := y
    exact hs i x σ' _ (by rw [List.getElem?_reverse hlt]; exact y xs q) p
  · have e : i = xs.length := by omega
    subst e
    exact .inl ⟨Nat.le_refl _, hd σ' H' p⟩
def sp_nth_list (K : PySem.W.Frag) : Sp := fun vs H Q _ => ∃ p b z ns es, ∃ i : Int, vs = [.ref p, .int i] ∧ LogAt K H p b z ns es ∧ topB z es ≤ 200 ∧ obsD z ns es = .none ∧ 0 ≤ i ∧ i < cntO z ns es ∧ ∀ a H', H a = none → Same H H' → H' a = some (.lst ((nthO z ns es i).map V.str)) → Q (.ref a) H'
def sp_place_in (_ : PySem.W.Frag) : Sp := fun vs H Q _ => ∃ (r : Addr) (o : List Str) (x : Str), vs = [.ref r, .str x] ∧ H r = some (.lst (o.map V.str)) ∧ x ∈ o ∧ Q (.int (o.idxOf x : Int)) H
def sp_list_index (K : PySem.W.Frag) : Sp := fun vs H Q _ => ∃ p b z ns es, ∃ (l : Addr) (xs : List Str), vs = [.ref p, .ref l] ∧ LogAt K H p b z ns es ∧ topB z es ≤ 200 ∧ obsD z ns es = .none ∧ H l = some (.lst (xs.map V.str)) ∧ validO z ns es xs ∧ ∀ H', Same H H' → Q (.int (idxO z ns es xs)) H'
end NbAb

set_option Elab.async false
set_option linter.all false
set_option maxRecDepth 100000
set_option maxHeartbeats 4000000
/-! sorted(..) of a list of rows of whole numbers that stand in order already. -/
namespace NbAd
open PySem PySem.Spec PySem.W PySem.Calls PyProof.Rows L2 Nb NbE NbS NbF NbP NbK NbL NbU NbX NbW NbV NbZ
def rowD (r : List Int) : PyData := .list (r.map .int)
theorem dep_row (r : List Int) : (rowD r).depth ≤ 1 := by
  have := PySem.W.depth_ints r
  unfold rowD
  simp only [PyData.depth]
  omega
section
variable {X : Cx} {pins : List (Addr × Obj)} {σ : L2.St} {H : Hp} {s : Shared}
theorem rows_each (I : Inv X pins σ H s) : ∀ {rows : List (List Int)} {xs : List V} {us : List Value}, DpAll X.K H xs (rows.map rowD) → Vals xs us →
    EachIs (fun u (b : V × List Int) => RelV b.1 u) us (xs.zip rows) ∧ EachIs (fun u (b : V × List Int) => ∃ as, Reads s.heap u (rowD b.2) as) us (xs.zip rows) ∧ (xs.zip rows).map (·.1) = xs ∧ (xs.zip rows).map (·.2) = rows
  | [], _, _, d, r => by
    cases d
    cases r
    exact ⟨.nil, .nil, rfl, rfl⟩
  | row :: rows, _, _, d, r => by
    cases d with
    | cons d1 d2 =>
      cases r with
      | cons r1 r2 =>
        obtain ⟨a, b, c, e⟩ := rows_each I d2 r2
        refine ⟨.cons r1 a, .cons (Dp.reads I _ _ _ d1 r1) b, ?_, ?_⟩
        · rw [List.zip_cons_cons, List.map_cons, c]
        · rw [List.zip_cons_cons, List.map_cons, e]
theorem vals_each : ∀ {bs : List (V × List Int)} {us : List Value}, EachIs (fun u (b : V × List Int) => RelV b.1 u) us bs → Vals (bs.map (·.1)) us
  | _, _, .nil => .nil
  | _, _, .cons h t => .cons h (vals_each t)
end
/-- sorted(rows), rows in order: a new list of the same -/
def rSortR (K : PySem.W.Frag) : List V → Hp → VK → Prop := fun vs H Q => ∃ (a : Addr) (xs : List V) (rows : List (List Int)), vs = [V.ref a] ∧ SqL K H a xs ∧ DpAll K H xs (rows.map rowD) ∧ rows.Pairwise (fun x y => x ≤ y) ∧
  ∀ (p : Addr), H p = none → Q (.ref p) (upd H p (.lst xs))
theorem cr_sortR {X : Cx} (hu : X.A.units + 64 < cLine) : CallR X (.builtin "sorted") (rSortR X.K) := by
  intro pins s σ H vs us Q I r h
  obtain ⟨a, xs, rows, rfl, hs, hd, hp, q⟩ := h
  obtain ⟨its, rv, hl, hz⟩ := I.list hs
  rw [Vals.ref1 r]
  obtain ⟨e1, e2, e3, e4⟩ := rows_each I hd rv
  have hso : (xs.zip rows).Pairwise (fun p q => (decide (p.2 ≤ q.2)) = true) := by
    rw [← e4] at hp
    refine (List.pairwise_map.mp hp).imp fun {p q} h => decide_eq_true h
  have hm : (xs.zip rows).mergeSort (PySem.W.dataLe false fun b => rowD b.2) = xs.zip rows := by
    rw [show (PySem.W.dataLe false fun b : V × List Int => rowD b.2) = fun p q => decide (p.2 ≤ q.2) from PySem.W.dataLe_rows (fun b : V × List Int => b.2)]
    exact List.mergeSort_of_pairwise hso
  have hzl : (xs.zip rows).length ≤ sizeLine := by
    have : ((xs.zip rows).map (·.1)).length ≤ sizeLine := by rw [e3]; exact hz
    rwa [List.length_map] at this
  refine PySem.W.sorted_data (enc := fun b : V × List Int => rowD b.2) (R := fun u (b : V × List Int) => RelV b.1 u) hl.isList e1 e2 (PySem.W.AllAlike.of fun b b' => ?_) (PySem.W.Sortable.others fun b => ⟨by unfold rowD; simp, by unfold rowD; simp⟩) hzl (fun b _ => ?_) fun out h1 h2 => ?_
  · unfold rowD
    simp only [PySem.W.alike]
    exact PySem.W.alike_ints _ _
  · have := dep_row b.2
    show X.A.units + 2 + (rowD b.2).depth < cLine
    omega
  · rw [hm] at h2
    have hv := vals_each h2
    rw [e3] at hv
    obtain ⟨ep, he'⟩ := PyProof.Rows.sortedAll_at s.heap its out.toArray
    exact ⟨.ref _, upd H (s.heap.objs.size + 1) (.lst xs), I.laid (t' := s.toks) (fun _ _ => PyProof.Rows.sortedAll_old) (Nat.le_succ _) ⟨hz, out, ep, hv, he'⟩, rfl, q _ (I.hok.fresh (Nat.le_succ _))⟩
end NbAd

set_option Elab.async false
set_option linter.all false
set_option maxRecDepth 100000
set_option maxHeartbeats 4000000
/-! Lists of owners by their slots: a way through the blocks, its number, the order of numbers. -/
namespace NbAe
open PySem PySem.Spec PyProof.Rows L2 Nb NbE NbS NbF NbP NbK NbL NbX NbW NbZ NbM NbQ NbC NbG NbH NbI NbJ NbO NbA NbD NbN NbAa NbAb
section
variable {z q s k : Int} {ns : List Str} {es : List En} {n x : Str} {xs : List Str}
/-- a slot that the walk may stand at before a block -/
structure PathOk (z : Int) (ns : List Str) (es : List En) (q s : Int) : Prop where
  p : pI z ns es q ≤ s
  n : s ≤ (es.length : Int)
  l : q ≤ topB z es → s ≤ lI z ns es q
theorem PathOk.s0 (h : PathOk z ns es q s) : 0 ≤ s := Int.le_trans (pI_bd (z := z) (ns := ns) (es := es) (f := q)).1 h.p
theorem path_nil (P : ∀ q, 0 ≤ q → q ≤ topB z es → eI z ns es q ≤ (es.length : Int)) : PathOk z ns es 0 0 := by
  refine ⟨by unfold pI; rw [if_pos (Int.le_refl _)]; exact Int.le_refl _, by omega, fun h => ?_⟩
  have := e_le_l' P (Int.le_refl 0) h
  have := eI_pos (z := z) (ns := ns) (es := es) (q := 0)
  omega
theorem own_iff : x ∈ ownL z ns es q ↔ x ∈ ns ∧ (slO z ns es x q).isSome = true := List.mem_filter
theorem path_one (P : ∀ q, 0 ≤ q → q ≤ topB z es → eI z ns es q ≤ (es.length : Int)) (h0 : 0 ≤ q) (h1 : q ≤ topB z es) (h : PathOk z ns es q s) (hn : x ∈ ns) {w : Int × Int} (hw : winO z es x q = some w) (g1 : max w.1 s ≤ w.2) (g2 : max w.1 s ≤ lI z ns es q) : PathOk z ns es (q + 1) (max w.1 s) := by
  have hs : SlW z es x q (max w.1 s) := slW_iff.mp ⟨w, hw, by omega, g1⟩
  have hp := h.p
  refine ⟨?_, hs.k1, fun h => ?_⟩
  · rw [pI_succ h0, eI_eq h0]
    exact sFrom_min (by omega) (inW_iff.mpr ⟨x, hn, hs⟩)
  · have := lI_up (ns := ns) P h0 (by omega)
    omega
theorem path_own (P : ∀ q, 0 ≤ q → q ≤ topB z es → eI z ns es q ≤ (es.length : Int)) (h0 : 0 ≤ q) (h1 : q ≤ topB z es) (h : PathOk z ns es q s) (hx : x ∈ ownL z ns es q) : ∃ w, winO z es x q = some w ∧ max w.1 s ≤ w.2 ∧ max w.1 s ≤ lI z ns es q ∧ PathOk z ns es (q + 1) (max w.1 s) := by
  obtain ⟨hn, hsl⟩ := own_iff.mp hx
  obtain ⟨k, hk, _, _⟩ := slO_iff.mp hsl
  obtain ⟨w, hw, _, _⟩ := slW_iff.mpr hk
  obtain ⟨g1, g2⟩ := (step_iff P h0 h1 h.p (h.l h1) hn hw).mpr hsl
  exact ⟨w, hw, g1, g2, path_one P h0 h1 h hn hw g1 g2⟩
theorem idx_ne {y : Str} {r : List Str} (e : ¬ y = x) : (y :: r).idxOf x = r.idxOf x + 1 := by
  rw [List.idxOf_cons, show (y == x) = false by simpa using e]
  rfl
theorem filt_idx {p : Str → Bool} : ∀ {l : List Str}, x ∈ l → p x = true → (l.filter p).idxOf x = ((l.take (l.idxOf x)).filter p).length
  | [], h, _ => by cases h
  | y :: r, h, hp => by
    by_cases e : y = x
    · subst e
      rw [List.filter_cons_of_pos hp, List.idxOf_cons_self, List.idxOf_cons_self]
      rfl
    · have hr : x ∈ r := by
        rcases List.mem_cons.mp h with h | h
        · exact absurd h.symm e
        · exact h
      have ih := filt_idx hr hp
      rw [idx_ne e, List.take_succ_cons]
      by_cases hy : p y = true
      · rw [List.filter_cons_of_pos hy, List.filter_cons_of_pos hy, idx_ne e, ih]
        rfl
      · rw [List.filter_cons_of_neg hy, List.filter_cons_of_neg hy, ih]
theorem rank_one (P : ∀ q, 0 ≤ q → q ≤ topB z es → eI z ns es q ≤ (es.length : Int)) (h0 : 0 ≤ q) {k : Nat} (hk : q + k = topB z es) (h : PathOk z ns es q s) (hx : x ∈ ownL z ns es q) :
    wayR (ways (winRs z ns es (q + 1) k)) s ((winR z ns es q).take (ns.idxOf x)) = ((ownL z ns es q).idxOf x : Int) * prodO z ns es (q + 1) k := by
  have h1 : q ≤ topB z es := by omega
  obtain ⟨hn, hsl⟩ := own_iff.mp hx
  unfold winR
  rw [← List.map_take, wayR_own (c := prodO z ns es (q + 1) k) P h0 h1 h.p h.n (fun j j0 j1 => ?_) _ (fun n hn => List.mem_of_mem_take hn), if_pos (h.l h1)]
  · have := filt_idx (p := fun n => (slO z ns es n q).isSome) hn hsl
    unfold ownL
    rw [this]
  · rw [ways_own P k (q + 1) j (by omega) (by omega) (by rw [pI_succ h0]; exact j0) j1]
    rcases (by omega : q = topB z es ∧ k = 0 ∨ q ≠ topB z es ∧ k ≠ 0) with ⟨a, b⟩ | ⟨a, b⟩
    · rw [if_pos (.inl b), if_pos (.inl a)]
    · simp only [a, b, false_or]
theorem winRs_drop (z : Int) (ns : List Str) (es : List En) : ∀ (j k : Nat) (q : Int), (winRs z ns es q (k + j)).drop j = winRs z ns es (q + j) k
  | 0, k, q => by
    rw [List.drop_zero, show q + ((0 : Nat) : Int) = q by omega]
    rfl
  | j + 1, k, q => by
    show (winRs z ns es (q + 1) (k + j)).drop j = _
    rw [winRs_drop z ns es j k (q + 1), show q + 1 + (j : Int) = q + ((j + 1 : Nat) : Int) by omega]
/-- one block more of the number -/
theorem idx_more (h : validO z ns es xs) {j : Nat} (hj : j < (topB z es + 1).toNat) (hx : xs[j]? = some x) :
    idxR ((rowsO z ns es).take (j + 1)).reverse (xs.take (j + 1)).reverse = idxR ((rowsO z ns es).take j).reverse (xs.take j).reverse * ((ownL z ns es (j : Int)).length : Int) + ((ownL z ns es (j : Int)).idxOf x : Int) := by
  rw [List.take_add_one, List.take_add_one, rowsO_get (by omega), hx, List.reverse_append, List.reverse_append]
  rfl
theorem valid_of : ∀ {rs : OwnR} {xs : List Str}, xs.length = rs.length → (∀ (i : Nat) o x, rs[i]? = some o → xs[i]? = some x → x ∈ o) → validR rs xs
  | [], [], _, _ => trivial
  | [], _ :: _, h, _ => by cases h
  | _ :: _, [], h, _ => by cases h
  | o :: r, x :: xs, h, g => ⟨g 0 o x rfl rfl, valid_of (by simpa using h) fun i o' x' a b => g (i + 1) o' x' (by simpa using a) (by simpa using b)⟩
theorem validO_of (hl : xs.length = (topB z es + 1).toNat) (h : ∀ (i : Nat) x, xs[i]? = some x → x ∈ ownL z ns es (i : Int)) : validO z ns es xs := by
  refine valid_of (by rw [List.length_reverse, List.length_reverse, rowsO_len, hl]) fun i o x ho hx => ?_
  have h1 := (List.getElem?_eq_some_iff.mp hx).1
  rw [List.length_reverse] at h1
  rw [List.getElem?_reverse h1] at hx
  rw [List.getElem?_reverse (by rw [rowsO_len]; omega), rowsO_len, rowsO_get (by omega)] at ho
  cases ho
  rw [show (topB z es + 1).toNat - 1 - i = xs.length - 1 - i by omega]
  exact h _ _ hx
theorem nth_valid (hg : goodR (rowsO z ns es).reverse) (i : Int) : validO z ns es (nthO z ns es i) := by
  unfold validO nthO
  rw [List.reverse_reverse]
  exact nthR_valid i hg
theorem nthO_len (i : Int) : (nthO z ns es i).length = (topB z es + 1).toNat := by
  unfold nthO
  rw [List.length_reverse, nthR_len, List.length_reverse, rowsO_len]
theorem idxO_nth (hg : goodR (rowsO z ns es).reverse) {i : Int} (h0 : 0 ≤ i) (h1 : i < cntO z ns es) : idxO z ns es (nthO z ns es i) = i := by
  unfold idxO nthO
  rw [List.reverse_reverse]
  exact idx_nth hg h0 (by rw [lenP_rows]; exact h1)
theorem nthO_idx (hg : goodR (rowsO z ns es).reverse) (h : validO z ns es xs) : nthO z ns es (idxO z ns es xs) = xs := by
  unfold idxO nthO
  rw [nth_idx hg h, List.reverse_reverse]
theorem idxO_bd (hg : goodR (rowsO z ns es).reverse) (h : validO z ns es xs) : 0 ≤ idxO z ns es xs ∧ idxO z ns es xs < cntO z ns es := by
  have := idx_bd hg h
  rw [lenP_rows] at this
  exact this
/-! ### the order of the numbers -/
def rank (ns : List Str) (xs : List Str) : List Int := xs.map fun n => (ns.idxOf n : Int)
theorem idx_get {l : List Str} (hn : l.Nodup) {k : Nat} (h : k < l.length) : l.idxOf l[k] = k := by
  have := idxOf_getD hn h
  rwa [List.getD_eq_getElem?_getD, List.getElem?_eq_getElem h] at this
theorem idx_pair {l : List Str} (hn : l.Nodup) : l.Pairwise fun a b => l.idxOf a < l.idxOf b := by
  rw [List.pairwise_iff_getElem]
  intro i j hi hj h
  rw [idx_get hn hi, idx_get hn hj]
  exact h
theorem lt_app : ∀ {a b c d : List Int}, a.length = b.length → a < b → a ++ c < b ++ d
  | [], [], _, _, _, h => by cases h
  | [], _ :: _, _, _, h, _ => by cases h
  | _ :: _, [], _, _, h, _ => by cases h
  | x :: a, y :: b, c, d, hl, h => by
    rw [List.cons_lt_cons_iff] at h
    rw [List.cons_append, List.cons_append, List.cons_lt_cons_iff]
    rcases h with h | ⟨h1, h2⟩
    · exact .inl h
    · exact .inr ⟨h1, lt_app (by simpa using hl) h2⟩
theorem lt_last : ∀ {a : List Int} {x y : Int}, x < y → a ++ [x] < a ++ [y]
  | [], x, y, h => by
    rw [List.nil_append, List.nil_append, List.cons_lt_cons_iff]
    exact .inl h
  | c :: a, x, y, h => by
    rw [List.cons_append, List.cons_append, List.cons_lt_cons_iff]
    exact .inr ⟨rfl, lt_last h⟩
theorem rank_lt : ∀ {rs : OwnR} {i j : Int}, goodR rs → (∀ o ∈ rs, o.Pairwise fun a b => ns.idxOf a < ns.idxOf b) → 0 ≤ i → i < j → j < lenP rs → rank ns (nthR rs i).reverse < rank ns (nthR rs j).reverse
  | [], i, j, _, _, h0, h, h1 => by
    have : lenP [] = 1 := rfl
    omega
  | o :: r, i, j, hg, hp, h0, h, h1 => by
    have ol := hg.len
    have hl : lenP (o :: r) = (o.length : Int) * lenP r := rfl
    rw [hl] at h1
    unfold rank
    show ((o.getD (i % (o.length : Int)).toNat "" :: nthR r (i / (o.length : Int))).reverse.map fun n => (ns.idxOf n : Int)) < ((o.getD (j % (o.length : Int)).toNat "" :: nthR r (j / (o.length : Int))).reverse.map fun n => (ns.idxOf n : Int))
    rw [List.reverse_cons, List.reverse_cons, List.map_append, List.map_append]
    have i0 := Int.emod_nonneg i (show (o.length : Int) ≠ 0 by omega)
    have i1 := Int.emod_lt_of_pos i ol
    have j0 := Int.emod_nonneg j (show (o.length : Int) ≠ 0 by omega)
    have j1 := Int.emod_lt_of_pos j ol
    have ei := Int.mul_ediv_add_emod i (o.length : Int)
    have ej := Int.mul_ediv_add_emod j (o.length : Int)
    have dm : i / (o.length : Int) ≤ j / (o.length : Int) := Int.ediv_le_ediv ol (by omega)
    have d0 : 0 ≤ i / (o.length : Int) := Int.ediv_nonneg h0 (by omega)
    have dj : j / (o.length : Int) < lenP r := Int.ediv_lt_of_lt_mul ol (by rw [Int.mul_comm]; exact h1)
    rcases (by omega : i / (o.length : Int) < j / (o.length : Int) ∨ i / (o.length : Int) = j / (o.length : Int)) with g | g
    · refine lt_app (by rw [List.length_map, List.length_map, List.length_reverse, List.length_reverse, nthR_len, nthR_len]) ?_
      exact rank_lt hg.tail (fun x hx => hp x (List.mem_cons_of_mem _ hx)) d0 g dj
    · rw [g]
      refine lt_last ?_
      rw [g] at ei
      have hm : (i % (o.length : Int)).toNat < (j % (o.length : Int)).toNat := by omega
      have hjl : (j % (o.length : Int)).toNat < o.length := by omega
      have := (List.pairwise_iff_getElem.mp (hp o (List.mem_cons_self ..))) _ _ (by omega) hjl hm
      rw [List.getD_eq_getElem?_getD, List.getD_eq_getElem?_getD, List.getElem?_eq_getElem hjl, List.getElem?_eq_getElem (by omega)]
      show (ns.idxOf _ : Int) < (ns.idxOf _ : Int)
      exact Int.ofNat_lt.mpr this
theorem rankO_lt (hg : goodR (rowsO z ns es).reverse) (hn : ns.Nodup) {i j : Int} (h0 : 0 ≤ i) (h : i < j) (h1 : j < cntO z ns es) : rank ns (nthO z ns es i) < rank ns (nthO z ns es j) := by
  refine rank_lt hg (fun o ho => ?_) h0 h (by rw [lenP_rows]; exact h1)
  obtain ⟨q, _, rfl⟩ := List.mem_map.mp (List.mem_reverse.mp ho)
  exact (idx_pair hn).sublist List.filter_sublist
theorem ranks_asc (hg : goodR (rowsO z ns es).reverse) (hn : ns.Nodup) {ms : List Int} (hs : ms.Pairwise (· < ·)) (hb : ∀ m ∈ ms, 0 ≤ m ∧ m < cntO z ns es) : (ms.map fun m => rank ns (nthO z ns es m)).Pairwise fun x y => x ≤ y := by
  rw [List.pairwise_map]
  refine List.Pairwise.imp_of_mem (fun {a b} ha hb' h => ?_) hs
  exact List.le_of_lt (rankO_lt hg hn (hb a ha).1 h (hb b hb').2)
/-! ### the latest slots, block by block -/
theorem cand_max (P : ∀ q, 0 ≤ q → q ≤ topB z es → eI z ns es q ≤ (es.length : Int)) (h0 : 0 ≤ q) (h1 : q ≤ topB z es) {o : Int} (ho : q < topB z es ∧ o = lI z ns es (q + 1) ∨ q = topB z es ∧ (es.length : Int) ≤ o) :
    lI z ns es q ∈ candU o (wins z es ns q) ∧ ∀ c ∈ candU o (wins z es ns q), c ≤ lI z ns es q := by
  have l0 : 0 ≤ lI z ns es q := Int.le_trans (eI_pos (z := z) (ns := ns) (es := es) (q := q)) (e_le_l' P h0 h1)
  have main : ∀ o', sUpTo z ns es q o' = lI z ns es q → lI z ns es q ∈ candU o' (wins z es ns q) ∧ ∀ c ∈ candU o' (wins z es ns q), c ≤ lI z ns es q := fun o' h => by
    have k := slotU_cand o' (wins z es ns q) (-1)
    have k0 : slotU o' (wins z es ns q) (-1) = lI z ns es q := h
    rw [k0] at k
    exact ⟨k.2.2.resolve_left (by omega), k.2.1⟩
  rcases ho with ⟨a, rfl⟩ | ⟨rfl, b⟩
  · exact main _ (lI_eq a).symm
  · have e : candU o (wins z es ns (topB z es)) = candU (es.length : Int) (wins z es ns (topB z es)) := by
      unfold candU
      have hw : ∀ p ∈ wins z es ns (topB z es), p.2 ≤ (es.length : Int) := fun p hp => wins_le p hp
      rw [List.filter_congr (q := fun p => decide (p.1 ≤ min p.2 (es.length : Int))) fun p hp => by rw [Int.min_eq_left (Int.le_trans (hw p hp) b), Int.min_eq_left (hw p hp)]]
      refine List.map_congr_left fun p hp => ?_
      have := hw p (List.mem_filter.mp hp).1
      rw [Int.min_eq_left (Int.le_trans this b), Int.min_eq_left this]
    rw [e]
    exact main _ lI_top.symm
end
end NbAe

set_option Elab.async false
set_option linter.all false
set_option maxRecDepth 100000
set_option maxHeartbeats 4000000
/-! for i, (x, y) in enumerate(zip(xs, ys)). -/
namespace NbAf
open PySem PySem.Spec PySem.W PySem.Calls PyProof.Rows L2 Nb NbE NbS NbF NbZ NbM
open Sem (wp)
/-- a zip, whatever tuple of its own is out -/
abbrev ZipG (h : Heap) (z TI TO : Addr) (f0 : Value) (f : Bool) : Prop :=
  h.get? z = some { cls := .type "zip", dict := none, data := .fields #[f0, .bool f, .bool false, .ref TI, .ref TO], slots := #[] }
def ZipS (h : Heap) (z TI TO : Addr) : Prop := ∃ f0 f, ZipG h z TI TO f0 f ∧ (f0 = .none ∨ ∃ T : Addr, f0 = rawInt T)
section
variable {prog : Program} {w : World} {A : Around} {E : Value → Shared → Prop} {s : Shared} {z TI TO i1 i2 l1 l2 : Addr} {k1 k2 : Nat} {xs ys : Array Value} {x y a b f0 : Value} {f : Bool}
def FreeAt (prog : Program) (w : World) (s : Shared) (z : Addr) : Prop := ∀ (A : Around) (Q : Bool → Shared → Prop) (E : Value → Shared → Prop), Q true s → wpAny (model prog w) A (Builtin.SmallTypes.ownedTupleIsFree (.ref z)) Q E s
theorem free_none (hz : ZipG s.heap z TI TO .none f) : FreeAt prog w s z := fun A Q E q => by
  unfold Builtin.SmallTypes.ownedTupleIsFree
  exact wpAny_bind (wpAny_field hz rfl (x := .none) rfl (wpAny_pure q))
theorem free_dead {T : Addr} (hz : ZipG s.heap z TI TO (rawInt T) f) (hT : s.heap.get? T = none) : FreeAt prog w s z := fun A Q E q => by
  unfold Builtin.SmallTypes.ownedTupleIsFree
  refine wpAny_bind (wpAny_field hz rfl (x := rawInt T) rfl ?_)
  show wpAny _ _ (loadIfAlive ((T : Int).toNat) >>= _) _ _ _
  rw [Int.toNat_natCast]
  refine wpAny_bind ?_
  have h' : wpAny (model prog w) A (if (s.heap.get? T).isNone = true then pure true else (do
      if (← field (.ref z) 1) != .bool true then setField (.ref z) 1 (.bool true)
      return false)) Q E s := by
    rw [hT]
    exact wpAny_pure q
  exact fun _ _ _ => h'
theorem zip_free_item {Q : Value → Shared → Prop} (D : ZipApart z TI TO i1 i2 l1 l2) (hz : ZipG s.heap z TI TO f0 f) (hfree : FreeAt prog w s z) (hTI : IsPair s.heap TI (.ref i1) (.ref i2)) (hTO : IsPair s.heap TO a b)
    (h1 : s.heap.IsListIter i1 l1 k1) (h2 : s.heap.IsListIter i2 l2 k2) (hl1 : s.heap.IsList l1 xs) (hl2 : s.heap.IsList l2 ys) (hx : xs[k1]? = some x) (hy : ys[k2]? = some y)
    (hQ : ∀ h', IsZip h' z TI TO (rawInt s.heap.objs.size) → IsPair h' TO x y → h'.IsListIter i1 l1 (k1 + 1) → h'.IsListIter i2 l2 (k2 + 1) → IsPair h' s.heap.objs.size x y → h'.objs.size = s.heap.objs.size + 1 →
      (∀ c o, c ≠ z → c ≠ TO → c ≠ i1 → c ≠ i2 → s.heap.get? c = some o → h'.get? c = some o) → Q (.ref s.heap.objs.size) { s with heap := h' }) :
    wpAny (model prog w) A (Builtin.«zip.__next__» ⟨[.ref z], []⟩) (fun fin s' => ∃ v, fin = .done (.ret v) ∧ Q v s') E s := by
  show wpAny _ _ (field (.ref z) 2 >>= _) _ _ _
  refine wpAny_bind (wpAny_field hz rfl (x := .bool false) rfl ?_)
  show wpAny _ _ (field (.ref z) 3 >>= _) _ _ _
  refine wpAny_bind (wpAny_field hz rfl (x := .ref TI) rfl ?_)
  refine wpAny_bind (wpAny_seqItems hTI rfl ?_)
  refine wpAny_bind (hfree _ _ _ ?_)
  simp only [if_true]
  refine wpAny_bind (wpAny_rule ?_)
  refine wpAny_bind (wpAny_field hz rfl (x := .ref TO) rfl ?_)
  refine wpAny_bind (wpAny_setField_rec hz (by simp) fun g1 hz1 e1 => ?_)
  replace hz1 : ZipG g1 z TI TO .ellipsis f := hz1
  refine wpAny_bind ?_
  simp only [List.zipIdx_cons, List.zipIdx_nil, List.forIn_cons, List.forIn_nil]
  refine wpAny_bind (wpAny_bind (wpAny_onRaise ?_))
  show wpAny _ _ (Builtin.SmallTypes.nextOf (.ref i1) >>= _) _ _ _
  refine wpAny_bind (wpAny_nextOf_list_item (h1.extBut e1.extBut D.i1z) (hl1.extBut e1.extBut D.l1z) hx fun g2 m1 e2 => wpAny_pure ?_)
  have o2 : IsPair g2 TO a b := e2.extBut _ _ D.TOi1 (e1.extBut _ _ D.TOz hTO)
  refine wpAny_bind (wpAny_seqItems o2 rfl ?_)
  refine wpAny_bind (wpAny_updateSeq_pair o2 fun g3 o3 e3 => ?_)
  replace o3 : IsPair g3 TO x b := o3
  refine wpAny_bind (wpAny_letGo (wpAny_pure ?_))
  refine wpAny_bind (wpAny_bind (wpAny_onRaise ?_))
  show wpAny _ _ (Builtin.SmallTypes.nextOf (.ref i2) >>= _) _ _ _
  refine wpAny_bind (wpAny_nextOf_list_item (((h2.extBut e1.extBut D.i2z).extBut e2.extBut D.i12.symm).extBut e3.extBut D.TOi2.symm)
    (((hl2.extBut e1.extBut D.l2z).extBut e2.extBut D.l2i1).extBut e3.extBut D.l2TO) hy fun g4 m2 e4 => wpAny_pure ?_)
  have o4 : IsPair g4 TO x b := e4.extBut _ _ D.TOi2 o3
  refine wpAny_bind (wpAny_seqItems o4 rfl ?_)
  refine wpAny_bind (wpAny_updateSeq_pair o4 fun g5 o5 e5 => ?_)
  replace o5 : IsPair g5 TO x y := o5
  refine wpAny_bind (wpAny_letGo (wpAny_pure (wpAny_pure ?_)))
  refine wpAny_bind (wpAny_seqItems o5 rfl ?_)
  refine wpAny_bind (wpAny_newTuple ?_)
  have hsz : g5.objs.size = s.heap.objs.size := by rw [e5.1, e4.1, e3.1, e2.1, e1.1]
  have z5 : ZipG g5 z TI TO .ellipsis f := e5.extBut _ _ D.TOz.symm (e4.extBut _ _ D.i2z.symm (e3.extBut _ _ D.TOz.symm (e2.extBut _ _ D.i1z.symm hz1)))
  have k5 : ∀ c o, c ≠ z → c ≠ TO → c ≠ i1 → c ≠ i2 → s.heap.get? c = some o → g5.get? c = some o := fun c o c1 c2 c3 c4 e =>
    e5.extBut _ _ c2 (e4.extBut _ _ c4 (e3.extBut _ _ c2 (e2.extBut _ _ c3 (e1.extBut _ _ c1 e))))
  have j1 : g5.IsListIter i1 l1 (k1 + 1) := ((m1.extBut e3.extBut D.TOi1.symm).extBut e4.extBut D.i12).extBut e5.extBut D.TOi1.symm
  have j2 : g5.IsListIter i2 l2 (k2 + 1) := m2.extBut e5.extBut D.TOi2.symm
  have zlt : z < g5.objs.size := Heap.lt_size z5
  show wpAny _ _ (Builtin.SmallTypes.ownedTupleHandOut (.ref z) (.ref g5.objs.size) >>= _) _ _ _
  refine wpAny_bind ?_
  unfold Builtin.SmallTypes.ownedTupleHandOut
  have z6 : ZipG (g5.push { cls := .type "tuple", data := .seq #[x, y] }) z TI TO .ellipsis f := Heap.get?_push_of_some _ z5
  refine wpAny_bind (wpAny_setField_rec z6 (by simp) fun g7 z7 e7 => ?_)
  replace z7 : ZipG g7 z TI TO (rawInt g5.objs.size) f := z7
  refine wpAny_setField_rec z7 (by simp) fun g8 z8 e8 => ?_
  replace z8 : IsZip g8 z TI TO (rawInt g5.objs.size) := z8
  have up : ∀ c o, c ≠ z → g5.get? c = some o → g8.get? c = some o := fun c o c1 e => e8.extBut _ _ c1 (e7.extBut _ _ c1 (Heap.get?_push_of_some _ e))
  have t8 : IsPair g8 g5.objs.size x y := e8.extBut _ _ (Nat.ne_of_gt zlt) (e7.extBut _ _ (Nat.ne_of_gt zlt) (Heap.get?_push_size _ rfl))
  have s8 : g8.objs.size = g5.objs.size + 1 := by rw [e8.1, e7.1, Heap.size_push]
  rw [hsz] at z8 t8 s8
  refine wpAny_pure ⟨_, rfl, ?_⟩
  show Q (.ref g5.objs.size) _
  rw [hsz]
  exact hQ g8 z8 (up _ _ D.TOz o5) (j1.at fun o e => up _ o D.i1z e) (j2.at fun o e => up _ o D.i2z e) t8 s8 fun c o c1 c2 c3 c4 e => up c o c1 (k5 c o c1 c2 c3 c4 e)
theorem zip_any_item {Q : Value → Shared → Prop} (D : ZipApart z TI TO i1 i2 l1 l2) (hz : ZipS s.heap z TI TO) (hTI : IsPair s.heap TI (.ref i1) (.ref i2)) (hTO : IsPair s.heap TO a b)
    (h1 : s.heap.IsListIter i1 l1 k1) (h2 : s.heap.IsListIter i2 l2 k2) (hl1 : s.heap.IsList l1 xs) (hl2 : s.heap.IsList l2 ys) (hx : xs[k1]? = some x) (hy : ys[k2]? = some y)
    (hQ : ∀ h', ZipS h' z TI TO → (∃ a b, IsPair h' TO a b) → h'.IsListIter i1 l1 (k1 + 1) → h'.IsListIter i2 l2 (k2 + 1) → IsPair h' s.heap.objs.size x y → h'.objs.size = s.heap.objs.size + 1 →
      (∀ c o, c ≠ z → c ≠ TO → c ≠ i1 → c ≠ i2 → s.heap.get? c = some o → h'.get? c = some o) → Q (.ref s.heap.objs.size) { s with heap := h' }) :
    wpAny (model prog w) A (Builtin.«zip.__next__» ⟨[.ref z], []⟩) (fun fin s' => ∃ v, fin = .done (.ret v) ∧ Q v s') E s := by
  obtain ⟨f0, f, hz, hf⟩ := hz
  rcases hf with rfl | ⟨T, rfl⟩
  · exact zip_free_item D hz (free_none hz) hTI hTO h1 h2 hl1 hl2 hx hy fun h' b1 b2 b3 b4 b5 b6 b7 => hQ h' ⟨_, _, b1, .inr ⟨_, rfl⟩⟩ ⟨_, _, b2⟩ b3 b4 b5 b6 b7
  · cases hT : s.heap.get? T with
    | none => exact zip_free_item D hz (free_dead hz hT) hTI hTO h1 h2 hl1 hl2 hx hy fun h' b1 b2 b3 b4 b5 b6 b7 => hQ h' ⟨_, _, b1, .inr ⟨_, rfl⟩⟩ ⟨_, _, b2⟩ b3 b4 b5 b6 b7
    | some oT => exact zip_next_item_held D hz hT hTI h1 h2 hl1 hl2 hx hy fun h' b1 b3 b4 b5 b6 b7 => hQ h' ⟨_, _, b1, .inr ⟨_, rfl⟩⟩ ⟨_, _, b7 _ _ D.TOz D.TOi1 D.TOi2 hTO⟩ b3 b4 b5 b6 fun c o c1 _ c3 c4 e => b7 c o c1 c3 c4 e
theorem zip_free_end {Q : Fin → Shared → Prop} (hh : A.handled = none) (D : ZipApart z TI TO i1 i2 l1 l2) (hz : ZipG s.heap z TI TO f0 f) (hfree : FreeAt prog w s z) (hTI : IsPair s.heap TI (.ref i1) (.ref i2)) (hTO : IsPair s.heap TO a b)
    (h1 : s.heap.IsListIter i1 l1 k1) (h2 : s.heap.IsListIter i2 l2 k2) (hl1 : s.heap.IsList l1 xs) (hl2 : s.heap.IsList l2 ys) (hend : xs[k1]? = none ∨ ys[k2]? = none)
    (hE : ∀ h' e, (∀ c o, c ≠ z → c ≠ TO → c ≠ i1 → c ≠ i2 → s.heap.get? c = some o → h'.get? c = some o) → (∃ o, h'.get? e = some o ∧ o.cls = .type "StopIteration") → E (.ref e) { s with heap := h' }) :
    wpAny (model prog w) A (Builtin.«zip.__next__» ⟨[.ref z], []⟩) Q E s := by
  show wpAny _ _ (field (.ref z) 2 >>= _) _ _ _
  refine wpAny_bind (wpAny_field hz rfl (x := .bool false) rfl ?_)
  show wpAny _ _ (field (.ref z) 3 >>= _) _ _ _
  refine wpAny_bind (wpAny_field hz rfl (x := .ref TI) rfl ?_)
  refine wpAny_bind (wpAny_seqItems hTI rfl ?_)
  refine wpAny_bind (hfree _ _ _ ?_)
  simp only [if_true]
  refine wpAny_bind (wpAny_rule ?_)
  refine wpAny_bind (wpAny_field hz rfl (x := .ref TO) rfl ?_)
  refine wpAny_bind (wpAny_setField_rec hz (by simp) fun g1 hz1 e1 => ?_)
  replace hz1 : ZipG g1 z TI TO .ellipsis f := hz1
  refine wpAny_bind ?_
  simp only [List.zipIdx_cons, List.zipIdx_nil, List.forIn_cons, List.forIn_nil]
  refine wpAny_bind (wpAny_bind (wpAny_onRaise ?_))
  show wpAny _ _ (Builtin.SmallTypes.nextOf (.ref i1) >>= _) _ _ _
  cases hx : xs[k1]? with
  | none =>
    refine wpAny_bind (wpAny_nextOf_list_end hh (h1.extBut e1.extBut D.i1z) (hl1.extBut e1.extBut D.l1z) hx fun g2 e e2 he => ?_)
    obtain ⟨oe, hoe, hce⟩ := he
    have z2 : ZipG g2 z TI TO .ellipsis f := e2 _ _ D.i1z.symm hz1
    have hez : e ≠ z := fun q => by subst q; rw [z2] at hoe; cases hoe; simp at hce
    exact wpAny_setField_rec z2 (by simp) fun g3 _ e3 => hE g3 e (fun c o c1 _ c3 _ q => e3.extBut _ _ c1 (e2 _ _ c3 (e1.extBut _ _ c1 q))) ⟨oe, e3.extBut _ _ hez hoe, hce⟩
  | some x =>
    have hy : ys[k2]? = none := by rcases hend with h | h; rw [hx] at h; cases h; exact h
    refine wpAny_bind (wpAny_nextOf_list_item (h1.extBut e1.extBut D.i1z) (hl1.extBut e1.extBut D.l1z) hx fun g2 m1 e2 => wpAny_pure ?_)
    have o2 : IsPair g2 TO a b := e2.extBut _ _ D.TOi1 (e1.extBut _ _ D.TOz hTO)
    refine wpAny_bind (wpAny_seqItems o2 rfl ?_)
    refine wpAny_bind (wpAny_updateSeq_pair o2 fun g3 o3 e3 => ?_)
    refine wpAny_bind (wpAny_letGo (wpAny_pure ?_))
    refine wpAny_bind (wpAny_bind (wpAny_onRaise ?_))
    show wpAny _ _ (Builtin.SmallTypes.nextOf (.ref i2) >>= _) _ _ _
    refine wpAny_bind (wpAny_nextOf_list_end hh (((h2.extBut e1.extBut D.i2z).extBut e2.extBut D.i12.symm).extBut e3.extBut D.TOi2.symm)
      (((hl2.extBut e1.extBut D.l2z).extBut e2.extBut D.l2i1).extBut e3.extBut D.l2TO) hy fun g4 e e4 he => ?_)
    obtain ⟨oe, hoe, hce⟩ := he
    have z4 : ZipG g4 z TI TO .ellipsis f := e4 _ _ D.i2z.symm (e3.extBut _ _ D.TOz.symm (e2.extBut _ _ D.i1z.symm hz1))
    have hez : e ≠ z := fun q => by subst q; rw [z4] at hoe; cases hoe; simp at hce
    exact wpAny_setField_rec z4 (by simp) fun g5 _ e5 => hE g5 e (fun c o c1 c2 c3 c4 q => e5.extBut _ _ c1 (e4 _ _ c4 (e3.extBut _ _ c2 (e2.extBut _ _ c3 (e1.extBut _ _ c1 q))))) ⟨oe, e5.extBut _ _ hez hoe, hce⟩
theorem zip_any_end {Q : Fin → Shared → Prop} (hh : A.handled = none) (D : ZipApart z TI TO i1 i2 l1 l2) (hz : ZipS s.heap z TI TO) (hTI : IsPair s.heap TI (.ref i1) (.ref i2)) (hTO : IsPair s.heap TO a b)
    (h1 : s.heap.IsListIter i1 l1 k1) (h2 : s.heap.IsListIter i2 l2 k2) (hl1 : s.heap.IsList l1 xs) (hl2 : s.heap.IsList l2 ys) (hend : xs[k1]? = none ∨ ys[k2]? = none)
    (hE : ∀ h' e, (∀ c o, c ≠ z → c ≠ TO → c ≠ i1 → c ≠ i2 → s.heap.get? c = some o → h'.get? c = some o) → (∃ o, h'.get? e = some o ∧ o.cls = .type "StopIteration") → E (.ref e) { s with heap := h' }) :
    wpAny (model prog w) A (Builtin.«zip.__next__» ⟨[.ref z], []⟩) Q E s := by
  obtain ⟨f0, f, hz, hf⟩ := hz
  rcases hf with rfl | ⟨T, rfl⟩
  · exact zip_free_end hh D hz (free_none hz) hTI hTO h1 h2 hl1 hl2 hend hE
  · cases hT : s.heap.get? T with
    | none => exact zip_free_end hh D hz (free_dead hz hT) hTI hTO h1 h2 hl1 hl2 hend hE
    | some oT => exact zip_next_end_held hh D hz hT hTI h1 h2 hl1 hl2 hend fun h' e k he => hE h' e (fun c o c1 _ c3 c4 q => k c o c1 c3 c4 q) he
theorem typ_zip (hz : ZipS s.heap z TI TO) : s.TypeIs (.ref z) "zip" := by
  obtain ⟨f0, f, hz, _⟩ := hz
  exact ⟨_, hz, rfl⟩
theorem nextOf_zip_item {Q : Value → Shared → Prop} (D : ZipApart z TI TO i1 i2 l1 l2) (hz : ZipS s.heap z TI TO) (hTI : IsPair s.heap TI (.ref i1) (.ref i2)) (hTO : IsPair s.heap TO a b)
    (h1 : s.heap.IsListIter i1 l1 k1) (h2 : s.heap.IsListIter i2 l2 k2) (hl1 : s.heap.IsList l1 xs) (hl2 : s.heap.IsList l2 ys) (hx : xs[k1]? = some x) (hy : ys[k2]? = some y)
    (hQ : ∀ h', ZipS h' z TI TO → (∃ a b, IsPair h' TO a b) → h'.IsListIter i1 l1 (k1 + 1) → h'.IsListIter i2 l2 (k2 + 1) → IsPair h' s.heap.objs.size x y → h'.objs.size = s.heap.objs.size + 1 →
      (∀ c o, c ≠ z → c ≠ TO → c ≠ i1 → c ≠ i2 → s.heap.get? c = some o → h'.get? c = some o) → Q (.ref s.heap.objs.size) { s with heap := h' }) :
    wpAny (model prog w) A (Builtin.SmallTypes.nextOf (.ref z)) Q E s := by
  unfold Builtin.SmallTypes.nextOf
  refine wpAny_bind (wpAny_callSpecial?_slot (name := Str.ofString "__next__") (typ_zip hz) F.slot_zip_next
    (wpAny_call_entry F.slot_zip_next (typ_zip hz) F.entry_zip_next (zip_any_item D hz hTI hTO h1 h2 hl1 hl2 hx hy fun h' b1 b2 b3 b4 b5 b6 b7 => ?_) (F.args_zip_next_1 _)))
  exact wpAny_pure (hQ h' b1 b2 b3 b4 b5 b6 b7)
theorem nextOf_zip_end {Q : Value → Shared → Prop} (hh : A.handled = none) (D : ZipApart z TI TO i1 i2 l1 l2) (hz : ZipS s.heap z TI TO) (hTI : IsPair s.heap TI (.ref i1) (.ref i2)) (hTO : IsPair s.heap TO a b)
    (h1 : s.heap.IsListIter i1 l1 k1) (h2 : s.heap.IsListIter i2 l2 k2) (hl1 : s.heap.IsList l1 xs) (hl2 : s.heap.IsList l2 ys) (hend : xs[k1]? = none ∨ ys[k2]? = none)
    (hE : ∀ h' e, (∀ c o, c ≠ z → c ≠ TO → c ≠ i1 → c ≠ i2 → s.heap.get? c = some o → h'.get? c = some o) → (∃ o, h'.get? e = some o ∧ o.cls = .type "StopIteration") → E (.ref e) { s with heap := h' }) :
    wpAny (model prog w) A (Builtin.SmallTypes.nextOf (.ref z)) Q E s := by
  unfold Builtin.SmallTypes.nextOf
  exact wpAny_bind (wpAny_callSpecial?_slot (name := Str.ofString "__next__") (typ_zip hz) F.slot_zip_next
    (wpAny_call_entry F.slot_zip_next (typ_zip hz) F.entry_zip_next (zip_any_end hh D hz hTI hTO h1 h2 hl1 hl2 hend hE) (F.args_zip_next_1 _)))
/-! ### enumerate over what draws -/
theorem enum_gen {e it : Addr} {i : Nat} {old : Value} {R : Value → Heap → Prop} {Q : Value → Shared → Prop} (he : IsEnum s.heap e it i old)
    (hn : ∀ (A' : Around) (Q' : Value → Shared → Prop) (E' : Value → Shared → Prop), A'.handled = A.handled → (∀ x h1, R x h1 → IsEnum h1 e it i old → Q' x { s with heap := h1 }) → wpAny (model prog w) A' (Builtin.SmallTypes.nextOf (.ref it)) Q' E' s)
    (hQ : ∀ x h1 h', R x h1 → IsEnumOut h' e it ((i : Int) + 1) x h1.objs.size → h'.get? h1.objs.size = some { cls := .type "tuple", data := .seq #[.int i s.toks, x] } → h'.objs.size = h1.objs.size + 1 →
      e < h1.objs.size → (∀ b o, b ≠ e → h1.get? b = some o → h'.get? b = some o) → Q (.ref h1.objs.size) { s with heap := h', toks := s.toks + 1 }) :
    wpAny (model prog w) A (Builtin.«enumerate.__next__» ⟨[.ref e], []⟩) (fun fin s' => ∃ v, fin = .done (.ret v) ∧ Q v s') E s := by
  obtain ⟨hp, g, d, tk, os⟩ := s
  show wpAny _ _ (field (.ref e) 2 >>= _) _ _ _
  refine wpAny_bind (wpAny_field he rfl (x := .ref it) rfl ?_)
  refine wpAny_bind (hn A _ _ rfl fun x g1 hR he1 => ?_)
  show wpAny _ _ (field (.ref e) 3 >>= _) _ _ ⟨g1, g, d, tk, os⟩
  refine wpAny_bind (wpAny_field he1 rfl (x := rawInt i) rfl ?_)
  show wpAny _ _ (field (.ref e) 4 >>= _) _ _ ⟨g1, g, d, tk, os⟩
  refine wpAny_bind (wpAny_field he1 rfl (x := .none) rfl ?_)
  show wpAny _ _ (mkInt i >>= _) _ _ ⟨g1, g, d, tk, os⟩
  refine wpAny_bind (wpAny_mkInt ?_)
  show wpAny _ _ (setField (.ref e) 3 (rawInt ((i : Int) + 1)) >>= _) _ _ ⟨g1, g, d, tk + 1, os⟩
  refine wpAny_bind (wpAny_setField_rec he1 (by simp) fun g2 he2 e2 => ?_)
  replace e2 : Heap.SameBut e g1 g2 := e2
  replace he2 : IsEnum g2 e it ((i : Int) + 1) old := he2
  show wpAny _ _ (setField (.ref e) 4 .none >>= _) _ _ ⟨g2, g, d, tk + 1, os⟩
  refine wpAny_bind (wpAny_setField_rec he2 (by simp) fun g3 he3 e3 => ?_)
  replace e3 : Heap.SameBut e g2 g3 := e3
  replace he3 : IsEnum g3 e it ((i : Int) + 1) old := he3
  show wpAny _ _ (newTuple [.int i tk, x] >>= _) _ _ ⟨g3, g, d, tk + 1, os⟩
  refine wpAny_bind (wpAny_newTuple ?_)
  have he4 : IsEnum (g3.push { cls := .type "tuple", data := .seq #[.int i tk, x] }) e it ((i : Int) + 1) old := Heap.get?_push_of_some _ he3
  generalize hh4 : g3.push { cls := .type "tuple", data := .seq #[.int i tk, x] } = g4 at he4
  have hsz : g3.objs.size = g1.objs.size := by rw [e3.1, e2.1]
  have hel : e < g1.objs.size := Heap.lt_size he1
  have t4 : g4.get? g1.objs.size = some { cls := .type "tuple", data := .seq #[.int i tk, x] } := by rw [← hh4, ← hsz]; exact Heap.get?_push_size _ rfl
  have z4 : g4.objs.size = g1.objs.size + 1 := by rw [← hh4, Heap.size_push, hsz]
  have k4 : ∀ b o, b ≠ e → g1.get? b = some o → g4.get? b = some o := fun b o hbe hb => by
    rw [← hh4]; exact Heap.get?_push_of_some _ (e3.extBut b o hbe (e2.extBut b o hbe hb))
  show wpAny _ _ (Builtin.SmallTypes.ownedTupleIsFree (.ref e) >>= _) _ _ ⟨g4, g, d, tk + 1, os⟩
  rw [hsz]
  refine wpAny_bind ?_
  unfold Builtin.SmallTypes.ownedTupleIsFree
  refine wpAny_bind (wpAny_field he4 rfl (x := .none) rfl (wpAny_pure ?_))
  simp only [if_true]
  refine wpAny_bind (wpAny_rule ?_)
  refine wpAny_bind (wpAny_field he4 rfl (x := old) rfl ?_)
  refine wpAny_bind (wpAny_setField_rec he4 (by simp) fun g5 he5 e5 => ?_)
  replace e5 : Heap.SameBut e g4 g5 := e5
  replace he5 : IsEnum g5 e it ((i : Int) + 1) x := he5
  show wpAny _ _ (Builtin.SmallTypes.ownedTupleHandOut (.ref e) (.ref g1.objs.size) >>= _) _ _ ⟨g5, g, d, tk + 1, os⟩
  refine wpAny_bind ?_
  unfold Builtin.SmallTypes.ownedTupleHandOut
  refine wpAny_bind (wpAny_setField_rec he5 (by simp) fun g6 he6 e6 => ?_)
  replace e6 : Heap.SameBut e g5 g6 := e6
  replace he6 : IsEnumOut g6 e it ((i : Int) + 1) x g1.objs.size := he6
  refine wpAny_setField_rec he6 (by simp) fun g7 he7 e7 => ?_
  replace e7 : Heap.SameBut e g6 g7 := e7
  replace he7 : IsEnumOut g7 e it ((i : Int) + 1) x g1.objs.size := he7
  refine wpAny_bind (wpAny_letGo (wpAny_pure ⟨_, rfl, hQ x g1 g7 hR he7 ?_ ?_ hel ?_⟩))
  · exact e7.extBut _ _ (Nat.ne_of_gt hel) (e6.extBut _ _ (Nat.ne_of_gt hel) (e5.extBut _ _ (Nat.ne_of_gt hel) t4))
  · rw [e7.1, e6.1, e5.1, z4]
  · exact fun b o hbe hb => e7.extBut b o hbe (e6.extBut b o hbe (e5.extBut b o hbe (k4 b o hbe hb)))
theorem pyNext_enum_gen {e it : Addr} {i : Nat} {old : Value} {R : Value → Heap → Prop} {Q : Option Value → Shared → Prop} (he : IsEnum s.heap e it i old)
    (hn : ∀ (A' : Around) (Q' : Value → Shared → Prop) (E' : Value → Shared → Prop), (∀ x h1, R x h1 → IsEnum h1 e it i old → Q' x { s with heap := h1 }) → wpAny (model prog w) A' (Builtin.SmallTypes.nextOf (.ref it)) Q' E' s)
    (hQ : ∀ x h1 h', R x h1 → IsEnumOut h' e it ((i : Int) + 1) x h1.objs.size → h'.get? h1.objs.size = some { cls := .type "tuple", data := .seq #[.int i s.toks, x] } → h'.objs.size = h1.objs.size + 1 →
      e < h1.objs.size → (∀ b o, b ≠ e → h1.get? b = some o → h'.get? b = some o) → Q (some (.ref h1.objs.size)) { s with heap := h', toks := s.toks + 1 }) :
    wpAny (model prog w) A (pyNext (.ref e)) Q E s := by
  have hT : s.TypeIs (.ref e) "enumerate" := ⟨_, he, rfl⟩
  unfold pyNext
  exact wpAny_bind (wpAny_attempt (wpAny_callSpecial?_slot (name := Str.ofString "__next__") hT F.slot_enumerate_next
    (wpAny_call_entry F.slot_enumerate_next hT F.entry_enumerate_next
      (enum_gen (R := R) he (fun A' Q' E' _ h => hn A' Q' E' h) fun x h1 h' b1 b2 b3 b4 b5 b6 => wpAny_pure (hQ x h1 h' b1 b2 b3 b4 b5 b6)) (F.args_enumerate_next_1 _))))
theorem pyNext_enum_stop {e it : Addr} {i : Int} {old : Value} {R : Heap → Prop} {Q : Option Value → Shared → Prop} (hh : A.handled = none) (he : IsEnum s.heap e it i old)
    (hn : ∀ (A' : Around) (Q' : Value → Shared → Prop) (E' : Value → Shared → Prop), A'.handled = none → (∀ e1 h1, R h1 → (∃ o, h1.get? e1 = some o ∧ o.cls = .type "StopIteration") → E' (.ref e1) { s with heap := h1 }) → wpAny (model prog w) A' (Builtin.SmallTypes.nextOf (.ref it)) Q' E' s)
    (hQ : ∀ h1, R h1 → Q none { s with heap := h1 }) :
    wpAny (model prog w) A (pyNext (.ref e)) Q E s := by
  have hT : s.TypeIs (.ref e) "enumerate" := ⟨_, he, rfl⟩
  unfold pyNext
  refine wpAny_bind (wpAny_attempt (wpAny_callSpecial?_slot (name := Str.ofString "__next__") hT F.slot_enumerate_next
    (wpAny_call_entry F.slot_enumerate_next hT F.entry_enumerate_next ?_ (F.args_enumerate_next_1 _))))
  show wpAny _ _ (field (.ref e) 2 >>= _) _ _ _
  refine wpAny_bind (wpAny_field he rfl (x := .ref it) rfl ?_)
  refine wpAny_bind (hn _ _ _ hh fun e1 h1 hR hx => ?_)
  obtain ⟨o, ho, hc⟩ := hx
  refine wpAny_bind (wpAny_isInstance (T := "StopIteration") (b := true) ⟨o, ho, hc⟩ isSubtype_stop ?_)
  exact wpAny_pure (hQ _ hR)
end
set_option maxHeartbeats 1000000 in
theorem meets_enumerate_newZ (z TI TO : Addr) :
    Meets (Builtin.«enumerate.__new__» ⟨[.type "enumerate", .ref z], []⟩) (fun _ R s => IsZip s.heap z TI TO .none ∧
      R (.ok (.ret (.ref s.heap.objs.size))) { s with heap := s.heap.push { cls := .type "enumerate", data := .fields #[.none, .bool false, .ref z, rawInt 0, .none, .none] } }) :=
  .of_wp fun prog w A R s h => by
    obtain ⟨hp, g, d, tk, os⟩ := s
    obtain ⟨hz, h⟩ := h
    have hsub := sub_enumerate
    have q1 : ∀ {A' : Around} {E : Value → Shared → Prop} {Q : Value → Shared → Prop}, Q (.ref z) ⟨hp, g, d, tk, os⟩ → wpAny (model prog w) A' (pyIter (.ref z)) Q E ⟨hp, g, d, tk, os⟩ :=
      fun q => wpAny_pyIter_zip (s := ⟨hp, g, d, tk, os⟩) hz q
    wp_walk using q1
    refine wpAny_stack_any fun st => wpAny_pure ?_
    split
    · rename_i c _ _ _ _ _
      cases (c == Value.type "enumerate")
      · wp_walk using q1
        exact ⟨_, rfl, h⟩
      · wp_walk using q1
        exact ⟨_, rfl, h⟩
    · wp_walk using q1
      exact ⟨_, rfl, h⟩
section
variable {prog : Program} {w : World} {A : Around} {E : Value → Shared → Prop} {s : Shared} {z TI TO : Addr}
theorem call_enumerate_zip {Q : Value → Shared → Prop} (hz : IsZip s.heap z TI TO .none)
    (h : ∀ h', IsEnum h' s.heap.objs.size z 0 .none → h'.objs.size = s.heap.objs.size + 1 → (∀ b o, s.heap.get? b = some o → h'.get? b = some o) → Q (.ref s.heap.objs.size) { s with heap := h' }) :
    wpAny (model prog w) A (call (.type "enumerate") [.ref z]) Q E s := by
  refine callType_new F.called_enumerate (by decide) (F.typeCall_enumerate_1 _) (F.newCall_enumerate_1 _) (fun obj => F.args_object_init_2 obj _) F.entry_enumerate_new
    (meets_enumerate_newZ z TI TO) ⟨hz, ?_⟩
  have he : IsEnum (s.heap.push { cls := .type "enumerate", data := .fields #[.none, .bool false, .ref z, rawInt 0, .none, .none] }) s.heap.objs.size z 0 .none := Heap.get?_push_size _ rfl
  exact ⟨⟨_, he, rfl⟩, h _ he (by rw [Heap.size_push]) fun b o x => Heap.get?_push_of_some _ x⟩
end
/-! ### the walk -/
def Itze (K : PySem.W.Frag) (a b : Addr) : It :=
  ⟨fun i H => ∃ (xs ys : List V) (x y : V), SqL K H a xs ∧ SqL K H b ys ∧ xs[i]? = some x ∧ ys[i]? = some y,
    fun i H v H' => ∃ U T x y, v = .ref T ∧ H U = none ∧ T ≠ U ∧ H T = none ∧ H' = upd (upd H U (.tup [x, y])) T (.tup [.int (i : Nat), .ref U]) ∧ (∀ xs, SqL K H a xs → xs[i]? = some x) ∧ ∀ ys, SqL K H b ys → ys[i]? = some y,
    fun i H => ∃ xs ys : List V, SqL K H a xs ∧ SqL K H b ys ∧ (xs.length ≤ i ∨ ys.length ≤ i)⟩
structure Off (e z TI TO i1 i2 : Addr) : Prop where
  z : e ≠ z
  TI : e ≠ TI
  TO : e ≠ TO
  i1 : e ≠ i1
  i2 : e ≠ i2
theorem turn_ezip {P : Program} {w : World} {K : PySem.W.Frag} {elts : List Expr} {kk : Nat} {tpos : Pos} {a b e z TI TO i1 i2 : Addr} (D : ZipApart z TI TO i1 i2 a b) (O : Off e z TI TO i1 i2) :
    Turn P w K (.Tuple elts kk tpos) (Itze K a b) [e, z, TI, TO, i1, i2] e (fun i h => (∃ old, IsEnum h e z ((i : Nat) : Int) old) ∧ ZipS h z TI TO ∧ IsPair h TI (.ref i1) (.ref i2) ∧ (∃ x y, IsPair h TO x y) ∧ h.IsListIter i1 a i ∧ h.IsListIter i2 b i) where
  mem := by simp
  obj := fun i h st c hc => by
    obtain ⟨⟨old, he⟩, ⟨f0, f, hz, _⟩, hTI, ⟨x, y, hTO⟩, ⟨o1, e1, _, d1⟩, ⟨o2, e2, _, d2⟩⟩ := st
    have e' : c = e ∨ c = z ∨ c = TI ∨ c = TO ∨ c = i1 ∨ c = i2 := by simpa using hc
    rcases e' with q | q | q | q | q | q
    · rw [q]; exact ⟨_, he, fun v q => nomatch q⟩
    · rw [q]; exact ⟨_, hz, fun v q => nomatch q⟩
    · rw [q]; exact ⟨_, hTI, fun v q => nomatch q⟩
    · rw [q]; exact ⟨_, hTO, fun v q => nomatch q⟩
    · rw [q]; exact ⟨o1, e1, fun v q => by rw [d1] at q; cases q⟩
    · rw [q]; exact ⟨o2, e2, fun v q => by rw [d2] at q; cases q⟩
  keep := fun i h h' st k => by
    obtain ⟨⟨old, he⟩, ⟨f0, f, hz, hf⟩, hTI, ⟨x, y, hTO⟩, h1, h2⟩ := st
    exact ⟨⟨old, k e (by simp) _ he⟩, ⟨f0, f, k z (by simp) _ hz, hf⟩, k TI (by simp) _ hTI, ⟨x, y, k TO (by simp) _ hTO⟩, h1.at fun o q => k i1 (by simp) o q, h2.at fun o q => k i2 (by simp) o q⟩
  item := by
    intro X hP hw hK hc i pins s σ H E I hf st hg
    subst hP hw hK
    obtain ⟨⟨old, he⟩, hz, hTI, ⟨x0, y0, hTO⟩, h1, h2⟩ := st
    obtain ⟨xs, ys, x, y, hqx, hqy, hx, hy⟩ := hg
    obtain ⟨its, rv, p, _⟩ := I.list hqx
    obtain ⟨its2, rv2, p2, _⟩ := I.list hqy
    obtain ⟨u, hu, ru⟩ := rv.get hx
    obtain ⟨u2, hu2, ru2⟩ := rv2.get hy
    have hel : e < s.heap.objs.size := Heap.lt_size he
    refine pyNext_enum_gen (R := fun v g => v = .ref s.heap.objs.size ∧ ZipS g z TI TO ∧ (∃ a b, IsPair g TO a b) ∧ g.IsListIter i1 a (i + 1) ∧ g.IsListIter i2 b (i + 1) ∧ IsPair g s.heap.objs.size u u2 ∧ g.objs.size = s.heap.objs.size + 1 ∧ ∀ c o, c ≠ z → c ≠ TO → c ≠ i1 → c ≠ i2 → s.heap.get? c = some o → g.get? c = some o) he
      (fun A' Q' E' h => nextOf_zip_item D hz hTI hTO h1 h2 p.isList p2.isList (x := u) (y := u2) (by simpa using hu) (by simpa using hu2) fun g b1 b2 b3 b4 b5 b6 b7 => h _ g ⟨rfl, b1, b2, b3, b4, b5, b6, b7⟩ (b7 _ _ O.z O.TO O.i1 O.i2 he)) ?_
    rintro v g h' ⟨rfl, b1, b2, b3, b4, b5, b6, b7⟩ ho hT hsz hel1 hk
    refine ⟨_, rfl, wpAny_letOwnedTupleGo_enum (s := { s with heap := h', toks := s.toks + 1 }) ho fun h'' he' sb => ?_⟩
    have keepG : ∀ c o, c ≠ e → g.get? c = some o → h''.get? c = some o := fun c o n q => (sb.2 c n).trans (hk c o n q)
    have ha : FpOk X pins H e := hf e (by simp)
    have newU : ObjOk X.prog X.w (upd H s.heap.objs.size (.tup [x, y])) g s.heap.objs.size (.tup [x, y]) :=
      ⟨by show 2 ≤ sizeLine; decide, [u, u2], .cons ru (.cons ru2 .nil), ⟨_, b5, rfl, _, rfl⟩⟩
    have I1 : Inv X pins σ (upd H s.heap.objs.size (.tup [x, y])) { s with heap := g } :=
      I.turnedNew (t' := s.toks) (ch := [z, TI, TO, i1, i2]) (fun c o hb q => b7 c o (fun q' => hb (by simp [q'])) (fun q' => hb (by simp [q'])) (fun q' => hb (by simp [q'])) (fun q' => hb (by simp [q'])) q) (fun c hc => hf c (List.mem_cons_of_mem _ hc)) (Nat.le_refl _) newU
    have hT2 : h''.get? g.objs.size = some { cls := .type "tuple", data := .seq #[.int i s.toks, .ref s.heap.objs.size] } := (sb.2 _ (Nat.ne_of_gt hel1)).trans hT
    have newT : ObjOk X.prog X.w (upd (upd H s.heap.objs.size (.tup [x, y])) g.objs.size (.tup [.int (i : Nat), .ref s.heap.objs.size])) h'' g.objs.size (.tup [.int (i : Nat), .ref s.heap.objs.size]) :=
      ⟨by show 2 ≤ sizeLine; decide, [.int i s.toks, .ref s.heap.objs.size], .cons ⟨_, rfl⟩ (.cons rfl .nil), ⟨_, hT2, rfl, _, rfl⟩⟩
    have fe : FpOk X pins (upd H s.heap.objs.size (.tup [x, y])) e := ⟨by rw [upd_ne (Nat.ne_of_lt hel)]; exact ha.1, ha.2⟩
    have I2 : Inv X pins σ (upd (upd H s.heap.objs.size (.tup [x, y])) g.objs.size (.tup [.int (i : Nat), .ref s.heap.objs.size])) { s with heap := h'', toks := s.toks + 1 } :=
      I1.turnedNew (t' := s.toks + 1) (ch := [e]) (fun c o hb q => keepG c o (fun q' => hb (by simp [q'])) q) (fun c hc => by
        have : c = e := by simpa using hc
        rw [this]
        exact fe) (Nat.le_refl _) newT
    have nTU : g.objs.size ≠ s.heap.objs.size := by rw [b6]; exact Nat.succ_ne_self _
    have fresh : H g.objs.size = none := I.hok.fresh (by rw [b6]; exact Nat.le_succ _)
    obtain ⟨a2, b2', b2⟩ := b2
    refine ⟨.ref g.objs.size, _, I2, rfl, ⟨s.heap.objs.size, g.objs.size, x, y, rfl, I.hok.fresh (Nat.le_refl _), nTU, fresh, rfl, fun l hl => by rw [I.list_inj hl hqx]; exact hx, fun l hl => by rw [I.list_inj hl hqy]; exact hy⟩, ⟨⟨.ref s.heap.objs.size, ?_⟩, ?_, ?_, ⟨a2, b2', keepG _ _ O.TO.symm b2⟩, b3.at fun o q => keepG _ o O.i1.symm q, b4.at fun o q => keepG _ o O.i2.symm q⟩, fun c hcm => ?_⟩
    · have e1 : ((i + 1 : Nat) : Int) = (i : Int) + 1 := by omega
      rw [e1]; exact he'
    · obtain ⟨f0, f, q1, q2⟩ := b1
      exact ⟨f0, f, keepG _ _ O.z.symm q1, q2⟩
    · exact keepG _ _ O.TI.symm (b7 _ _ D.TIz D.TITO D.TIi1 D.TIi2 hTI)
    · have hlt : c < s.heap.objs.size := by
        have e' : c = e ∨ c = z ∨ c = TI ∨ c = TO ∨ c = i1 ∨ c = i2 := by simpa using hcm
        rcases e' with q | q | q | q | q | q
        · rw [q]; exact hel
        · rw [q]; obtain ⟨_, _, q1, _⟩ := hz; exact Heap.lt_size q1
        · rw [q]; exact Heap.lt_size hTI
        · rw [q]; exact Heap.lt_size hTO
        · rw [q]; obtain ⟨_, e1, _⟩ := h1; exact Heap.lt_size e1
        · rw [q]; obtain ⟨_, e1, _⟩ := h2; exact Heap.lt_size e1
      rw [upd_ne (Nat.ne_of_lt (by rw [b6]; exact Nat.lt_succ_of_lt hlt)), upd_ne (Nat.ne_of_lt hlt)]
      exact (hf c hcm).1
  done := by
    intro X hP hw hK hc i pins s σ H E I hf st hg
    subst hP hw hK
    obtain ⟨⟨old, he⟩, hz, hTI, ⟨x0, y0, hTO⟩, h1, h2⟩ := st
    obtain ⟨xs, ys, hqx, hqy, hend⟩ := hg
    obtain ⟨its, rv, p, _⟩ := I.list hqx
    obtain ⟨its2, rv2, p2, _⟩ := I.list hqy
    have l1 := rv.length
    have l2 := rv2.length
    have hen : its.toArray[i]? = none ∨ its2.toArray[i]? = none := by
      rcases hend with q | q
      · exact .inl (by simp; omega)
      · exact .inr (by simp; omega)
    exact pyNext_enum_stop (R := fun g => ∀ c o, c ≠ z → c ≠ TO → c ≠ i1 → c ≠ i2 → s.heap.get? c = some o → g.get? c = some o) (I.ok.hd hc) he
      (fun A' Q' E' hh h => nextOf_zip_end hh D hz hTI hTO h1 h2 p.isList p2.isList hen fun g e1 k hx => h e1 g k hx)
      fun g k => ⟨rfl, I.turnedL (t' := s.toks) (ch := [z, TI, TO, i1, i2]) (fun c o hb q => k c o (fun q' => hb (by simp [q'])) (fun q' => hb (by simp [q'])) (fun q' => hb (by simp [q'])) (fun q' => hb (by simp [q'])) q) fun c hc => hf c (List.mem_cons_of_mem _ hc)⟩
  self := fun A i s Q E st h => let ⟨⟨_, he⟩, _⟩ := st; wpAny_pyIter_enum he h
def iEnZ (K : PySem.W.Frag) (ta : TA) : TI := fun σ H R => ta σ H fun vs H1 => ∃ a b xs ys, vs = [.ref a, .ref b] ∧ SqL K H1 a xs ∧ SqL K H1 b ys ∧ R (Itze K a b) H1
theorem pi_ezip {X : Cx} {e e2 : Expr} {ta : TA} {p p2 pos pos2 tpos : Pos} {elts : List Expr} {kk : Nat} (hg : Gl X "enumerate") (hm : X.mg "enumerate" = none) (hg2 : Gl X "zip") (hm2 : X.mg "zip" = none) (ha : PA X [e, e2] ta)
    (hs2 : starEach [e, e2] X.env = (false, eval e X.env) :: starEach [e2] X.env := by rfl) (hpl : (backTo pos2 (starEach [e2] X.env)).any (·.1) = false := by rfl)
    (hs : starEach [.Call (.Name "zip" p2) [e, e2] [] pos2] X.env = (false, eval (.Call (.Name "zip" p2) [e, e2] [] pos2) X.env) :: starEach [] X.env := by rfl) :
    PI X (.Tuple elts kk tpos) (.Call (.Name "enumerate" p) [.Call (.Name "zip" p2) [e, e2] [] pos2] [] pos) (iEnZ X.K ta) := by
  refine ⟨fun pins s σ H R I h => ?_⟩
  refine Call_ (ld_blt I hg hm boot_enumerate ?_)
  refine PyProof.Rows.callWith_type1 ?_ hs rfl
  rw [hs]
  show wpAny _ _ (spliced ((false, eval (.Call (.Name "zip" p2) [e, e2] [] pos2) X.env) :: backTo pos (starEach [] X.env))) _ _ s
  refine Calls.spliced_cons ?_
  refine Call_ (ld_blt I hg2 hm2 PyProof.Rows.boot_zip (PyProof.Rows.callWith_type1 (thn (ha.run pos2 pins s σ H _ I h) fun us s1 ⟨vs, H1, I1, r1, q1⟩ => ?_) hs2 hpl))
  obtain ⟨a, b, xs, ys, ex, hqx, hqy, q⟩ := q1
  subst ex
  cases r1 with
  | cons r rr =>
    cases rr with
    | cons r' rr =>
      cases rr
      cases r
      cases r'
      obtain ⟨its, rv, p1, _⟩ := I1.list hqx
      obtain ⟨its2, rv2, p2', _⟩ := I1.list hqy
      have la : a < s1.heap.objs.size := p1.lt
      have lb : b < s1.heap.objs.size := p2'.lt
      refine call_zip_2 p1.isList p2'.isList fun h' hz hTI hTO h1 h2 hsz hk => ?_
      refine Calls.spliced_nil ?_
      refine call_enumerate_zip (s := { s1 with heap := h' }) hz fun h'' he hsz2 hk2 => wpAny_pyIter_enum he ?_
      have I2 : Inv X pins σ H1 { s1 with heap := h'' } := I1.kept (t' := s1.toks) fun c o y => hk2 _ _ (hk _ _ y)
      have e5 : h'.objs.size = s1.heap.objs.size + 5 := hsz
      have nn : ∀ k : Nat, k < 5 → h'.objs.size ≠ s1.heap.objs.size + k := fun k hk => by rw [e5]; exact fun z => by have := Nat.add_left_cancel z; omega
      refine ⟨h'.objs.size, [h'.objs.size, s1.heap.objs.size + 4, s1.heap.objs.size + 2, s1.heap.objs.size + 3, s1.heap.objs.size, s1.heap.objs.size + 1], _, _, H1, rfl, I2, turn_ezip (PySem.W.ktu_apart s1.heap.objs.size a b la lb) ⟨nn 4 (by decide), nn 2 (by decide), nn 3 (by decide), nn 0 (by decide), nn 1 (by decide)⟩,
        ⟨⟨_, he⟩, ⟨_, _, hk2 _ _ hz, .inl rfl⟩, hk2 _ _ hTI, ⟨_, _, hk2 _ _ hTO⟩, h1.at fun o e => hk2 _ o e, h2.at fun o e => hk2 _ o e⟩, fun c hcm => ?_, q⟩
      have e' : c = h'.objs.size ∨ c = s1.heap.objs.size + 4 ∨ c = s1.heap.objs.size + 2 ∨ c = s1.heap.objs.size + 3 ∨ c = s1.heap.objs.size ∨ c = s1.heap.objs.size + 1 := by simpa using hcm
      have hle : s1.heap.objs.size ≤ c := by
        rcases e' with z | z | z | z | z | z
        · rw [z, e5]; exact Nat.le_add_right _ _
        · rw [z]; exact Nat.le_add_right _ _
        · rw [z]; exact Nat.le_add_right _ _
        · rw [z]; exact Nat.le_add_right _ _
        · rw [z]; exact Nat.le_refl _
        · rw [z]; exact Nat.le_add_right _ _
      exact I1.fpOk hle (I1.hok.fresh hle)
/-- the loop -/
theorem loop_ezip {K : PySem.W.Frag} {a b : Addr} {g : TG} {tb : TS} {D : Ends} {σ : L2.St} {H : Hp} (xs ys : List V) (Pv : Nat → L2.St → Hp → Prop) (h0 : Pv 0 σ H) (hl : ∀ i σ' H', Pv i σ' H' → SqL K H' a xs ∧ SqL K H' b ys)
    (hs : ∀ (i : Nat) x y σ' H' U T, xs[i]? = some x → ys[i]? = some y → Pv i σ' H' → H' U = none → T ≠ U → H' T = none → g (.ref T) σ' (upd (upd H' U (.tup [x, y])) T (.tup [.int (i : Nat), .ref U])) fun σ2 H2 => tb { D with nx := Pv (i + 1), ct := Pv (i + 1), bk := D.nx } σ2 H2)
    (hd : ∀ σ' H', Pv (min xs.length ys.length) σ' H' → D.nx σ' H') : LoopR (Itze K a b) g tb D σ H := by
  refine ⟨fun i m σ H => m = min xs.length ys.length - i ∧ i ≤ min xs.length ys.length ∧ Pv i σ H, ⟨_, rfl, Nat.zero_le _, h0⟩, ?_⟩
  rintro i m σ H ⟨rfl, hi, p⟩
  obtain ⟨q1, q2⟩ := hl i σ H p
  by_cases hlt : i < min xs.length ys.length
  · obtain ⟨x, hx⟩ : ∃ x, xs[i]? = some x := ⟨_, List.getElem?_eq_getElem (by omega)⟩
    obtain ⟨y, hy⟩ : ∃ y, ys[i]? = some y := ⟨_, List.getElem?_eq_getElem (by omega)⟩
    refine .inr ⟨⟨xs, ys, x, y, q1, q2, hx, hy⟩, Pv (i + 1), fun σ2 H2 p' => ⟨_, by omega, rfl, hlt, p'⟩, fun v H2 w => ?_⟩
    obtain ⟨U, T, x', y', rfl, hU, nTU, hT, rfl, w1, w2⟩ := w
    have e1 := w1 xs q1
    have e2 := w2 ys q2
    rw [hx] at e1
    rw [hy] at e2
    cases e1
    cases e2
    exact hs i x y σ H U T hx hy p hU nTU hT
  · have e : i = min xs.length ys.length := by omega
    refine .inl ⟨⟨xs, ys, q1, q2, by omega⟩, ?_⟩
    rw [e] at p
    exact hd σ H p
end NbAf

set_option Elab.async false
set_option linter.all false
set_option maxRecDepth 100000
set_option maxHeartbeats 4000000
/-! for i in reversed(range(n)); who may hold its last block in a span. -/
namespace NbAg
open PySem PySem.Spec PyProof.Rows L2 Nb NbE NbS NbF NbP NbK NbL NbX NbW NbZ NbM NbQ NbC NbG NbH NbI NbJ NbO NbA NbD NbN NbAa NbAb
theorem loop_down {lo : Int} {n : Nat} {g : TG} {tb : TS} {D : Ends} {σ : L2.St} {H : Hp} (Pv : Nat → L2.St → Hp → Prop) (h0 : Pv 0 σ H)
    (hs : ∀ (i : Nat) σ' H', i < n → Pv i σ' H' → g (.int (lo - (i : Int))) σ' H' fun σ2 H2 => tb { D with nx := Pv (i + 1), ct := Pv (i + 1), bk := D.nx } σ2 H2)
    (hd : ∀ σ' H', Pv n σ' H' → D.nx σ' H') : LoopR (Itc lo (-1) n) g tb D σ H := by
  refine ⟨fun i m σ H => m = n - i ∧ i ≤ n ∧ Pv i σ H, ⟨_, rfl, Nat.zero_le _, h0⟩, ?_⟩
  rintro i m σ H ⟨rfl, hi, p⟩
  by_cases hlt : i < n
  · refine .inr ⟨hlt, Pv (i + 1), fun σ2 H2 p' => ⟨_, by omega, rfl, hlt, p'⟩, fun v H2 w => ?_⟩
    obtain ⟨rfl, rfl⟩ := w
    rw [show lo + (i : Int) * (-1) = lo - (i : Int) by omega]
    exact hs i σ _ hlt p
  · have e : i = n := by omega
    subst e
    exact .inl ⟨Nat.le_refl _, hd σ H p⟩
def soleB (z : Int) (ns : List Str) (es : List En) (fs : List Int) (n : Str) : Bool := fs.any fun f => decide (ownL z ns es f = [n])
/-- who may hold its last block in each span -/
def endL (z : Int) (ns : List Str) (es : List En) : List Int → List (List Str)
  | [] => []
  | f :: r => ((ownL z ns es f).filter fun n => !soleB z ns es r n) :: endL z ns es r
theorem endL_len (z : Int) (ns : List Str) (es : List En) : ∀ fs : List Int, (endL z ns es fs).length = fs.length
  | [] => rfl
  | f :: r => by
    show (endL z ns es r).length + 1 = r.length + 1
    rw [endL_len z ns es r]
theorem endL_drop (z : Int) (ns : List Str) (es : List En) : ∀ (k : Nat) (fs : List Int), (endL z ns es fs).drop k = endL z ns es (fs.drop k)
  | 0, _ => rfl
  | k + 1, [] => rfl
  | k + 1, f :: r => endL_drop z ns es k r
/-- a list of lists being filled -/
def LL (H : Hp) (L : Addr) (ls : List Addr) (vs : List (List V)) : Prop := ls.length = vs.length ∧ ∀ (i : Nat) l v, ls[i]? = some l → vs[i]? = some v → H l = some (.lst v) ∧ l ≠ L
theorem LL.nil {H : Hp} {L : Addr} : LL H L [] [] := ⟨rfl, fun i l v h => by simp at h⟩
theorem LL.same {H H' : Hp} {L : Addr} {ls : List Addr} {vs : List (List V)} (h : LL H L ls vs) (e : Same H H') : LL H' L ls vs := ⟨h.1, fun i l v a b => ⟨e _ _ (h.2 i l v a b).1, (h.2 i l v a b).2⟩⟩
theorem LL.app {H : Hp} {L a : Addr} {ls : List Addr} {vs : List (List V)} {v : List V} {o : HO} (h : LL H L ls vs) (ha : H a = some (.lst v)) (n : a ≠ L) : LL (upd H L o) L (ls ++ [a]) (vs ++ [v]) := by
  refine ⟨by rw [List.length_append, List.length_append, h.1]; rfl, fun i l w h1 h2 => ?_⟩
  rcases Nat.lt_or_ge i ls.length with g | g
  · rw [List.getElem?_append_left g] at h1
    rw [List.getElem?_append_left (by rw [← h.1]; exact g)] at h2
    obtain ⟨c1, c2⟩ := h.2 i l w h1 h2
    exact ⟨upd_keep c1 c2, c2⟩
  · rw [List.getElem?_append_right g] at h1
    rw [List.getElem?_append_right (by rw [← h.1]; exact g)] at h2
    have hi := (List.getElem?_eq_some_iff.mp h1).1
    rw [List.length_singleton] at hi
    rw [show i - ls.length = 0 by omega] at h1
    rw [← h.1, show i - ls.length = 0 by omega] at h2
    cases h1
    cases h2
    exact ⟨upd_keep ha n, n⟩
theorem LL.at {H : Hp} {L : Addr} {ls : List Addr} {vs : List (List V)} (h : LL H L ls vs) {i : Nat} {l : Addr} (hl : ls[i]? = some l) : ∃ v, vs[i]? = some v ∧ H l = some (.lst v) := by
  have hi := (List.getElem?_eq_some_iff.mp hl).1
  obtain ⟨v, hv⟩ : ∃ v, vs[i]? = some v := ⟨_, List.getElem?_eq_getElem (by rw [← h.1]; exact hi)⟩
  exact ⟨v, hv, (h.2 i l v hl hv).1⟩
theorem start_bd {z : Int} {es : List En} (hz : 1 ≤ z) (pos : ∀ e ∈ es, 0 ≤ e.2) {f : Int} (h : f ∈ starts z es) : 0 ≤ f ∧ f ≤ topB z es := by
  rw [← spansL_fst] at h
  obtain ⟨p, hp, rfl⟩ := List.mem_map.mp h
  have := span_top hz pos hp
  omega
theorem sole_cons {z : Int} {ns : List Str} {es : List En} {f : Int} {r : List Int} {n : Str} : soleB z ns es (f :: r) n = (decide (ownL z ns es f = [n]) || soleB z ns es r n) := rfl
theorem LL.far {H : Hp} {L q : Addr} {ls : List Addr} {vs : List (List V)} {o : HO} (h : LL H L ls vs) (n : ∀ l ∈ ls, l ≠ q) : LL (upd H q o) L ls vs := ⟨h.1, fun i l v a b => ⟨upd_keep (h.2 i l v a b).1 (n l (List.mem_of_getElem? a)), (h.2 i l v a b).2⟩⟩
theorem endL_in {z : Int} {ns : List Str} {es : List En} : ∀ {fs : List Int} {o : List Str}, o ∈ endL z ns es fs → ∀ n ∈ o, n ∈ ns
  | [], _, h, _, _ => by cases h
  | f :: r, o, h, n, hn => by
    rcases List.mem_cons.mp h with rfl | h
    · exact (List.mem_filter.mp (List.mem_filter.mp hn).1).1
    · exact endL_in h n hn
theorem shaped_strsG {ns l : List Str} (h : Crew ns) (hl : ∀ n ∈ l, n ∈ ns) : SeqAt.shaped (.list (l.map PyData.str)) = true := by
  unfold SeqAt.shaped
  rw [Bool.and_eq_true]
  refine ⟨lay_strs fun n hn => h.ok n (hl n hn), decide_eq_true ?_⟩
  show PyData.depthAll (l.map PyData.str) + 1 ≤ 64
  rw [dep_strs]
  decide
theorem dpsG {K : PySem.W.Frag} {H : Hp} : ∀ xs : List Str, DpAll K H (xs.map V.str) (xs.map PyData.str)
  | [] => .nil
  | x :: xs => .cons (.str _) (dpsG xs)
theorem prs_init {H : Hp} : ∀ {ts : List Addr} {ps : List (Int × Int)} {t : Addr} {p : Int × Int}, Prs H (ts ++ [t]) (ps ++ [p]) → Prs H ts ps
  | [], [], _, _, _ => trivial
  | [], p0 :: r, t, p, h => by
    have hl := h.len
    simp at hl
  | t0 :: r, [], t, p, h => by
    have hl := h.len
    simp at hl
  | t0 :: ts, p0 :: ps, t, p, h => ⟨h.1, prs_init h.2⟩
/-- ranges that touch made one -/
def joinL : List (Int × Int) → List (Int × Int) → List (Int × Int)
  | acc, [] => acc
  | acc, p :: r => match acc.getLast? with
    | some l => if l.2 = p.1 - 1 then joinL (acc.dropLast ++ [(l.1, p.2)]) r else joinL (acc ++ [p]) r
    | none => joinL (acc ++ [p]) r
theorem joinL_touch {ai : List (Int × Int)} {al p : Int × Int} {r : List (Int × Int)} (h : al.2 = p.1 - 1) : joinL (ai ++ [al]) (p :: r) = joinL (ai ++ [(al.1, p.2)]) r := by
  conv => lhs; unfold joinL
  rw [List.getLast?_concat]
  simp only
  rw [if_pos h, List.dropLast_concat]
theorem joinL_far {ai : List (Int × Int)} {al p : Int × Int} {r : List (Int × Int)} (h : ¬ al.2 = p.1 - 1) : joinL (ai ++ [al]) (p :: r) = joinL (ai ++ [al] ++ [p]) r := by
  conv => lhs; unfold joinL
  rw [List.getLast?_concat]
  simp only
  rw [if_neg h]
theorem joinL_len : ∀ (prs acc : List (Int × Int)), (joinL acc prs).length ≤ acc.length + prs.length
  | [], acc => by
    show acc.length ≤ acc.length + 0
    omega
  | p :: r, acc => by
    have step : joinL acc (p :: r) = joinL (acc ++ [p]) r ∨ ∃ l, acc ≠ [] ∧ joinL acc (p :: r) = joinL (acc.dropLast ++ [(l, p.2)]) r := by
      conv => lhs; lhs; unfold joinL
      cases h : acc.getLast? with
      | none => exact .inl rfl
      | some l =>
        simp only
        split
        · refine .inr ⟨l.1, (fun e => by rw [e] at h; cases h), ?_⟩
          conv => lhs; unfold joinL
          rw [h]
          simp only
          rw [if_pos (by assumption)]
        · exact .inl rfl
    rcases step with h | ⟨l, hn, h⟩
    · rw [h]
      have := joinL_len r (acc ++ [p])
      rw [List.length_append, List.length_singleton] at this
      rw [List.length_cons]
      omega
    · rw [h]
      have := joinL_len r (acc.dropLast ++ [(l, p.2)])
      rw [List.length_append, List.length_singleton, List.length_dropLast] at this
      have := List.length_pos_iff.mpr hn
      rw [List.length_cons]
      omega
/-- a number in one of the ranges -/
def InR (k : Int) (rs : List (Int × Int)) : Prop := ∃ r ∈ rs, r.1 ≤ k ∧ k ≤ r.2
theorem inR_app {k : Int} {a b : List (Int × Int)} : InR k (a ++ b) ↔ InR k a ∨ InR k b := by
  unfold InR
  constructor
  · rintro ⟨r, h, g⟩
    rcases List.mem_append.mp h with h | h
    · exact .inl ⟨r, h, g⟩
    · exact .inr ⟨r, h, g⟩
  · rintro (⟨r, h, g⟩ | ⟨r, h, g⟩)
    · exact ⟨r, List.mem_append_left _ h, g⟩
    · exact ⟨r, List.mem_append_right _ h, g⟩
theorem inR_one {k : Int} {p : Int × Int} : InR k [p] ↔ p.1 ≤ k ∧ k ≤ p.2 := ⟨fun ⟨r, h, g⟩ => by rw [List.mem_singleton.mp h] at g; exact g, fun g => ⟨p, List.mem_singleton.mpr rfl, g⟩⟩
theorem joinL_in {k : Int} : ∀ (prs acc : List (Int × Int)), (∀ r ∈ acc, r.1 ≤ r.2) → (∀ r ∈ prs, r.1 ≤ r.2) → (InR k (joinL acc prs) ↔ InR k acc ∨ InR k prs)
  | [], acc, _, _ => by
    show InR k acc ↔ _
    constructor
    · exact .inl
    · rintro (h | ⟨r, h, _⟩)
      · exact h
      · cases h
  | p :: r, acc, ha, hp => by
    have p0 := hp p (List.mem_cons_self ..)
    have hr : ∀ x ∈ r, x.1 ≤ x.2 := fun x hx => hp x (List.mem_cons_of_mem _ hx)
    have hc : InR k (p :: r) ↔ InR k [p] ∨ InR k r := inR_app (a := [p]) (b := r)
    have far : InR k (joinL (acc ++ [p]) r) ↔ InR k acc ∨ InR k (p :: r) := by
      rw [joinL_in r (acc ++ [p]) (fun x hx => by
        rcases List.mem_append.mp hx with h | h
        · exact ha x h
        · rw [List.mem_singleton.mp h]
          exact p0) hr, inR_app, hc, or_assoc]
    rcases List.eq_nil_or_concat acc with rfl | ⟨ai, al, rfl⟩
    · exact far
    · rw [List.concat_eq_append] at ha far ⊢
      have a0 := ha al (List.mem_append_right _ (List.mem_singleton.mpr rfl))
      by_cases h : al.2 = p.1 - 1
      · rw [joinL_touch h, joinL_in r (ai ++ [(al.1, p.2)]) (fun x hx => by
          rcases List.mem_append.mp hx with h' | h'
          · exact ha x (List.mem_append_left _ h')
          · rw [List.mem_singleton.mp h']
            show al.1 ≤ p.2
            omega) hr, inR_app, inR_app, hc, inR_one, inR_one, inR_one]
        constructor
        · rintro ((h1 | h1) | h1)
          · exact .inl (.inl h1)
          · have h2 : al.1 ≤ k ∧ k ≤ p.2 := h1
            rcases (by omega : k ≤ al.2 ∨ p.1 ≤ k) with g | g
            · exact .inl (.inr ⟨h2.1, g⟩)
            · exact .inr (.inl ⟨g, h2.2⟩)
          · exact .inr (.inr h1)
        · rintro ((h1 | h1) | (h1 | h1))
          · exact .inl (.inl h1)
          · exact .inl (.inr ⟨h1.1, by show k ≤ p.2; omega⟩)
          · exact .inl (.inr ⟨by show al.1 ≤ k; omega, h1.2⟩)
          · exact .inr h1
      · rw [joinL_far h]
        exact far
end NbAg

set_option Elab.async false
set_option linter.all false
set_option maxRecDepth 100000
set_option maxHeartbeats 4000000
/-! name = {key: value for ..} on one line. -/
namespace NbAh
open PySem PySem.Spec PyProof.Rows L2
section
variable {X : Cx}
theorem ps_setDcN {i : Nat} {y : Str} {py : Pos} {kx vx tg iter : Expr} {ifs : List Expr} {scope : Scope} {own : List (Str × Nat)} {pos spos : Pos} {wi : TI} {g : TG} {tt : TT} {tk tv : TE} (hc : X.calm = true) (hN : X.N.Nodup) (hy : X.N[i]? = some y) (hyl : X.env.scope.names.lookup y = some .local)
    (hsw : swapsWith (.DictComp kx vx [⟨tg, iter, ifs, 0⟩] scope pos) (some (.Name y py)) spos.line X.env = pure true) (hi : PI X tg iter wi) (ok : BlkOk X.N X.env.scope scope own)
    (hg : ∀ (s : Shared) (H : Hp) (C : Addr) (cl : List (Str × Addr)) (fp : List Addr), PG (X.blk s H scope (compEnvC scope cl C X.env) fp) tg g) (ht : ∀ (s : Shared) (H : Hp) (C : Addr) (cl : List (Str × Addr)) (fp : List Addr), PTs (X.blk s H scope (compEnvC scope cl C X.env) fp) ifs tt)
    (hk : ∀ (s : Shared) (H : Hp) (C : Addr) (cl : List (Str × Addr)) (fp : List Addr), PE (X.blk s H scope (compEnvC scope cl C X.env) fp) kx tk)
    (he : ∀ (s : Shared) (H : Hp) (C : Addr) (cl : List (Str × Addr)) (fp : List Addr), PE (X.blk s H scope (compEnvC scope cl C X.env) fp) vx tv) (hs : ∀ x, foldedSetIterable iter X.env x = pure x := by intro _; rfl) :
    PS X (.Assign [.Name y py] (.DictComp kx vx [⟨tg, iter, ifs, 0⟩] scope pos) spos) (tAsg (tDc wi g tt tk tv (own.map (·.2))) (gName i)) := by
  refine ⟨fun pins s σ H D I h => ?_⟩
  rw [exec_Assign_Name_used _ _ _ _ hsw]
  refine wpAny_bind (wpAny_standAt (wpAny_bind ?_))
  have h : tDc wi g tt tk tv (own.map (·.2)) σ H (fun x H1 => gName i x σ H1 D.nx) := h
  refine wpAny_bind (thn (dc_core (Qf := fun _ s' => SP X pins D .next s') hc hN I hi ok hg ht hk he hs h fun L C s' m H' I' q hn f => ?_) fun _ s' hq => wpAny_pure (wpAny_pure hq))
  show wpAny _ _ (assign (.Name y py) X.env (.ref L)) _ _ _
  refine wpAny_assign_Name (store_ok2 (v := V.ref L) I' hN hy (.inl hyl) rfl (fun s2 I2 ⟨a, sb, ha⟩ => ?_) (.inr hyl))
  obtain ⟨f0, f1, f2, f3, f4, f5⟩ := f
  have haC : C ≠ a := by
    rcases ha with z | z
    · rw [z]; exact f1
    · exact fun e => f4 y a z e.symm
  refine ⟨m, hn.sameBut sb haC, fun h3 sb3 => ?_⟩
  exact ⟨_, H', I2.turned (t' := s2.toks) (fun b o hb e => (sb3.2 b hb).trans e) f0 f1 f3 f4 f5, q⟩
theorem sw_trueD {kx vx : Expr} {gs : List Comprehension} {scope : Scope} {pos py : Pos} {y : Str} {l : Nat} {env : Env} (hk : env.scope.kind = .function) (hy : env.scope.names.lookup y = some .local) (hl : (py.line == pos.line) = true)
    (ha : (scope.names.any fun (n, k) => n == y && (k == .local || k == .cell)) = false) : swapsWith (.DictComp kx vx gs scope pos) (some (.Name y py)) l env = pure true := by
  have ky : env.kindOf y = some .local := hy
  have hb : env.blockKind = .function := by unfold Env.blockKind; rw [hk]; rfl
  unfold swapsWith
  simp only [hb, ky, ha, Expr.pos, hl]
  rfl
/-- a dict made by a comprehension -/
def DcR (J : It) (g : TG) (tt : TT) (tk tv : TE) (vs : List Nat) (σ : L2.St) (H1 : Hp) (D : Addr) (Q : VK) : Prop := ∃ W : Nat → Nat → Hp → Prop, (∃ m, W 0 m (upd H1 D (.dK []))) ∧ ∀ i m H, W i m H →
  (J.stop i H ∧ Q (.ref D) H) ∨ (J.go i H ∧ ∃ Nx : Hp → Prop, (∀ H', Nx H' → ∃ m', m' < m ∧ W (i + 1) m' H') ∧ ∀ x H', J.yld i H x H' → g x (wipe σ vs) H' fun σ2 H2 => wipe σ2 vs = wipe σ vs ∧ tt σ2 H2 fun b H3 =>
    if b = true then tk σ2 H3 fun y H4 => tv σ2 H4 fun z H5 => ∃ kvs k, y = kV k ∧ H5 D = some (.dK kvs) ∧ kvs.length < sizeLine ∧ Nx (upd H5 D (.dK (putK kvs k z))) else Nx H3)
theorem tDc_eq (wi : TI) (g : TG) (tt : TT) (tk tv : TE) (vs : List Nat) (σ : L2.St) (H : Hp) (Q : VK) : tDc wi g tt tk tv vs σ H Q = wi σ H fun J H1 => ∀ D, H1 D = none → DcR J g tt tk tv vs σ H1 D Q := rfl
theorem dc_list {K : PySem.W.Frag} {a D : Addr} {g : TG} {tt : TT} {tk tv : TE} {vs : List Nat} {σ : L2.St} {H1 : Hp} {Q : VK} (xs : List V) (Pv : Nat → Hp → Prop) (h0 : Pv 0 (upd H1 D (.dK []))) (hl : ∀ i H', i ≤ xs.length → Pv i H' → SqL K H' a xs)
    (hs : ∀ (i : Nat) x H', xs[i]? = some x → Pv i H' → g x (wipe σ vs) H' fun σ2 H2 => wipe σ2 vs = wipe σ vs ∧ tt σ2 H2 fun b H3 =>
      if b = true then tk σ2 H3 fun y H4 => tv σ2 H4 fun z H5 => ∃ kvs k, y = kV k ∧ H5 D = some (.dK kvs) ∧ kvs.length < sizeLine ∧ Pv (i + 1) (upd H5 D (.dK (putK kvs k z))) else Pv (i + 1) H3) (hd : ∀ H', Pv xs.length H' → Q (.ref D) H') : DcR (Itl K a) g tt tk tv vs σ H1 D Q := by
  refine ⟨fun i m H' => m = xs.length - i ∧ i ≤ xs.length ∧ Pv i H', ⟨_, rfl, Nat.zero_le _, h0⟩, ?_⟩
  rintro i m H' ⟨rfl, hi, p⟩
  have q := hl i H' hi p
  by_cases hlt : i < xs.length
  · refine .inr ⟨⟨xs, xs[i], q, by simp [hlt]⟩, Pv (i + 1), fun H2 p' => ⟨_, by omega, rfl, hlt, p'⟩, fun x H2 y => ?_⟩
    obtain ⟨e, y⟩ := y
    subst e
    exact hs i x _ (y xs q) p
  · have e : i = xs.length := by omega
    subst e
    exact .inl ⟨⟨xs, q, Nat.le_refl _⟩, hd H' p⟩
end
end NbAh

set_option Elab.async false
set_option linter.all false
set_option maxRecDepth 100000
set_option maxHeartbeats 4000000
/-! who can have taken a block and no later one: block by block, and by a walk in which one server is barred. -/
namespace NbAi
open PySem PySem.Spec PyProof.Rows L2 Nb NbE NbS NbF NbP NbK NbL NbX NbW NbZ NbM NbQ NbC NbG NbH NbI NbJ NbO NbA NbD NbN NbAa NbAb NbAg
/-- n can have taken q, and no block above it is n's alone -/
def EndB (z : Int) (ns : List Str) (es : List En) (n : Str) (q : Int) : Prop := n ∈ ownL z ns es q ∧ ∀ r, q < r → r ≤ topB z es → ∃ m ∈ ownL z ns es r, m ≠ n
theorem mem_starts : ∀ {xs : List Int} {f b : Int}, b ∈ xs → b ∈ startsG f xs
  | x :: r, f, b, h => by
    rw [startsG_cons]
    rcases List.mem_cons.mp h with rfl | h
    · split
      · exact List.mem_cons_of_mem _ (List.mem_cons_self ..)
      · exact List.mem_cons_self ..
    · have := mem_starts (f := x + 1) h
      split
      · exact List.mem_cons_of_mem _ (List.mem_cons_of_mem _ this)
      · exact List.mem_cons_of_mem _ this
theorem endL_get {z : Int} {ns : List Str} {es : List En} : ∀ {fs : List Int} {i : Nat} {f : Int} {o : List Str}, fs[i]? = some f → (endL z ns es fs)[i]? = some o → o = (ownL z ns es f).filter fun n => !soleB z ns es (fs.drop (i + 1)) n
  | [], i, _, _, h, _ => by simp at h
  | f0 :: r, 0, f, o, h1, h2 => by
    cases h1
    cases h2
    rfl
  | f0 :: r, i + 1, f, o, h1, h2 => endL_get (fs := r) (i := i) (by simpa using h1) h2
section
variable {z q r : Int} {ns : List Str} {es : List En} {n : Str} {p : Int × Int}
theorem starts_asc (hz : 1 ≤ z) (pos : ∀ e ∈ es, 0 ≤ e.2) : (starts z es).Pairwise (· < ·) := (NbH.startsG_ok (seen z es) 0 (lt_seen z es) (seen_pos hz pos)).1
theorem asc_get {xs : List Int} (h : xs.Pairwise (· < ·)) {i j : Nat} {a b : Int} (hi : xs[i]? = some a) (hj : xs[j]? = some b) : (i < j → a < b) ∧ (a < b → i < j) := by
  obtain ⟨i1, i2⟩ := List.getElem?_eq_some_iff.mp hi
  obtain ⟨j1, j2⟩ := List.getElem?_eq_some_iff.mp hj
  have up := List.pairwise_iff_getElem.mp h
  constructor
  · intro l
    have := up i j i1 j1 l
    omega
  · intro l
    rcases Nat.lt_trichotomy i j with g | g | g
    · exact g
    · subst g
      omega
    · have := up j i j1 i1 g
      omega
theorem filt_len {xs : List Int} (h : xs.Pairwise (· < ·)) {j : Nat} {x : Int} (hj : xs[j]? = some x) (hx : x ≤ q) : j + 1 ≤ (xs.filter fun b => decide (b ≤ q)).length := by
  have h1 : (xs.take (j + 1)).filter (fun b => decide (b ≤ q)) = xs.take (j + 1) := List.filter_eq_self.mpr fun a ha => by
    obtain ⟨i, hi⟩ := List.mem_iff_getElem?.mp ha
    have hl := (List.getElem?_eq_some_iff.mp hi).1
    rw [List.length_take] at hl
    rw [List.getElem?_take] at hi
    split at hi
    · rename_i g
      rcases Nat.lt_or_ge i j with g2 | g2
      · have := (asc_get h hi hj).1 g2
        simp
        omega
      · obtain rfl : i = j := by omega
        rw [hi] at hj
        cases hj
        simpa using hx
    · cases hi
  have h2 := List.Sublist.filter (fun b => decide (b ≤ q)) (List.take_sublist (j + 1) xs)
  rw [h1] at h2
  have h3 := h2.length_le
  rw [List.length_take] at h3
  have := (List.getElem?_eq_some_iff.mp hj).1
  omega
theorem span_next (hz : 1 ≤ z) (pos : ∀ e ∈ es, 0 ≤ e.2) {i : Nat} {p p' : Int × Int} (h : (spansL z es)[i]? = some p) (h' : (spansL z es)[i + 1]? = some p') : p'.1 = p.2 + 1 := by
  have a := span_first hz pos h
  have b := span_first hz pos h'
  have c := lenS_step h
  omega
theorem span_start {i : Nat} (h : (spansL z es)[i]? = some p) : (starts z es)[i]? = some p.1 := by
  rw [← spansL_fst, List.getElem?_map, h]
  rfl
theorem span_of (hz : 1 ≤ z) (pos : ∀ e ∈ es, 0 ≤ e.2) (h0 : 0 ≤ q) (h1 : q ≤ topB z es) : ∃ (i : Nat) (p : Int × Int), (spansL z es)[i]? = some p ∧ p.1 ≤ q ∧ q ≤ p.2 ∧ ((starts z es).filter fun b => decide (b ≤ q)).length = i + 1 := by
  rcases top_mem hz pos with ⟨_, ht⟩ | ⟨_, e, he, ht⟩
  · omega
  · obtain ⟨i, st, g1, g2, g3, g4, g5⟩ := span_at (q := q) (lt_seen z es) (seen_pos hz pos) h0 ⟨e.2 / z, (mem_seen z _ es).mpr ⟨e, he, rfl⟩, by omega⟩
    have g1' : (starts z es)[i]? = some st := g1
    have g2' : ((starts z es).filter fun b => decide (b ≤ q)).length = i + 1 := g2
    have hl := (List.getElem?_eq_some_iff.mp g1').1
    rw [← len_spansL] at hl
    have hp : (spansL z es)[i]? = some (spansL z es)[i] := List.getElem?_eq_getElem hl
    have hs := span_start hp
    rw [g1'] at hs
    have hst : st = (spansL z es)[i].1 := by injection hs
    refine ⟨i, _, hp, by omega, ?_, g2'⟩
    rcases Nat.lt_or_ge (i + 1) (spansL z es).length with hn | hn
    · have hp' : (spansL z es)[i + 1]? = some (spansL z es)[i + 1] := List.getElem?_eq_getElem hn
      have nx := span_next hz pos hp hp'
      rcases Int.lt_or_le (spansL z es)[i].2 q with g | g
      · have := filt_len (q := q) (starts_asc hz pos) (span_start hp') (by omega)
        omega
      · exact g
    · have a := span_first hz pos hp
      have c := lenS_step hp
      rw [List.take_of_length_le hn, spans_len hz pos] at c
      omega
/-- a hidden block -/
theorem own_hid (P : ∀ q, 0 ≤ q → q ≤ topB z es → eI z ns es q ≤ (es.length : Int)) (hid : ∀ e ∈ es, e.2 / z ≠ q) (h0 : 0 ≤ q) (h1 : q < topB z es) : ∀ m ∈ ownL z ns es (q + 1), m ∈ ownL z ns es q := fun m hm => by
  obtain ⟨h2, h3⟩ := List.mem_filter.mp hm
  obtain ⟨k, hk, h4, h5⟩ := slO_iff.mp h3
  have hs : SlW z es m q k := ⟨hk.k0, hk.k1, fun i e he hq => absurd hq (hid e (List.mem_of_getElem? he)), fun i e he hn hq => hk.lo i e he hn (by omega), fun i e he hn hq => hk.hi i e he hn (by
    have := hid e (List.mem_of_getElem? he)
    omega)⟩
  refine List.mem_filter.mpr ⟨h2, slO_iff.mpr ⟨k, hs, ?_, ?_⟩⟩
  · have := eI_up (z := z) (ns := ns) (es := es) h0
    omega
  · rw [lI_eq h1]
    exact sUpTo_max h5 (inW_iff.mpr ⟨m, h2, hs⟩)
/-- if a block is one server's alone, so is the next one that is seen -/
theorem only_seen (hz : 1 ≤ z) (pos : ∀ e ∈ es, 0 ≤ e.2) (P : ∀ q, 0 ≤ q → q ≤ topB z es → eI z ns es q ≤ (es.length : Int)) : ∀ (k : Nat) (r : Int), 0 ≤ r → r + k = topB z es → (∀ m ∈ ownL z ns es r, m = n) → ∃ s ∈ seen z es, r ≤ s ∧ (∀ m ∈ ownL z ns es s, m = n) ∧ ∀ e ∈ es, e.2 / z < r ∨ s ≤ e.2 / z
  | k, r, h0, hk, ho => by
    by_cases hs : r ∈ seen z es
    · exact ⟨r, hs, Int.le_refl _, ho, fun e _ => by omega⟩
    · have hid : ∀ e ∈ es, e.2 / z ≠ r := fun e he g => hs ((mem_seen z r es).mpr ⟨e, he, g⟩)
      match k, hk with
      | 0, hk =>
        rcases top_mem hz pos with ⟨_, ht⟩ | ⟨_, e, he, ht⟩
        · omega
        · exact absurd (by omega) (hid e he)
      | k + 1, hk =>
        obtain ⟨s, a, b, c, d⟩ := only_seen hz pos P k (r + 1) (by omega) (by omega) fun m hm => ho m (own_hid P hid h0 (by omega) m hm)
        refine ⟨s, a, by omega, c, fun e he => ?_⟩
        have := hid e he
        have := d e he
        omega
theorem own_one (hn : ns.Nodup) (P : ∀ q, 0 ≤ q → q ≤ topB z es → eI z ns es q ≤ (es.length : Int)) (h0 : 0 ≤ q) (h1 : q ≤ topB z es) : ownL z ns es q = [n] ↔ ∀ m ∈ ownL z ns es q, m = n := by
  constructor
  · intro h m hm
    rw [h] at hm
    exact List.mem_singleton.mp hm
  · intro h
    have nd := own_nodup (z := z) (q := q) (es := es) hn
    have ne := own_some P h0 h1
    revert h nd ne
    generalize ownL z ns es q = o
    intro h nd ne
    match o, h, nd, ne with
    | [], _, _, ne => exact absurd rfl ne
    | [a], h, _, _ => rw [h a (List.mem_singleton.mpr rfl)]
    | a :: b :: r, h, nd, _ =>
      have ha := h a (by simp)
      have hb := h b (by simp)
      rw [ha, hb] at nd
      simp at nd
theorem sole_no {fs : List Int} : soleB z ns es fs n = false ↔ ∀ f ∈ fs, ownL z ns es f ≠ [n] := by
  unfold soleB
  rw [List.any_eq_false]
  exact ⟨fun h f hf g => h f hf (decide_eq_true g), fun h f hf g => h f hf (of_decide_eq_true g)⟩
/-- who may hold its last block in a span, block by block -/
theorem end_iff (hz : 1 ≤ z) (pos : ∀ e ∈ es, 0 ≤ e.2) (ho : obsD z ns es = .none) (hn : ns.Nodup) {i : Nat} {o : List Str} (hp : (spansL z es)[i]? = some p) (h1 : p.1 ≤ q) (h2 : q ≤ p.2) (hoi : (endL z ns es (starts z es))[i]? = some o) : n ∈ o ↔ EndB z ns es n q := by
  obtain ⟨_, P⟩ := (poss_iff hz pos).mp ho
  obtain ⟨a, b, c⟩ := span_alike hz pos ho (List.mem_of_getElem? hp) h1 h2
  have how : ownL z ns es p.1 = ownL z ns es q := ownL_congr a b c
  have hst := span_start hp
  have tp := span_top hz pos (List.mem_of_getElem? hp)
  rw [endL_get hst hoi, List.mem_filter, how, Bool.not_eq_true']
  have far : ∀ f ∈ (starts z es).drop (i + 1), p.2 < f := fun f hf => by
    obtain ⟨j, hj⟩ := List.mem_iff_getElem?.mp hf
    rw [List.getElem?_drop] at hj
    have hl := (List.getElem?_eq_some_iff.mp hj).1
    have hl2 : i + 1 < (spansL z es).length := by rw [len_spansL]; omega
    have hp' : (spansL z es)[i + 1]? = some (spansL z es)[i + 1] := List.getElem?_eq_getElem hl2
    have nx := span_next hz pos hp hp'
    have := span_start hp'
    have hle := (asc_get (starts_asc hz pos) hj this).2
    rcases Int.lt_or_le f (spansL z es)[i + 1].1 with g | g
    · have := hle g
      omega
    · omega
  constructor
  · rintro ⟨h3, h4⟩
    refine ⟨h3, fun r hr hr2 => ?_⟩
    apply Classical.byContradiction
    intro hno
    have only : ∀ m ∈ ownL z ns es r, m = n := fun m hm => Classical.byContradiction fun g => hno ⟨m, hm, g⟩
    obtain ⟨s, s1, s2, s3, _⟩ := only_seen hz pos P (topB z es - r).toNat r (by omega) (by omega) only
    obtain ⟨e, he, hes⟩ := (mem_seen z s es).mp s1
    have stop : s ≤ topB z es := by
      rw [← hes]
      exact topB_le he
    obtain ⟨j, hj⟩ := List.mem_iff_getElem?.mp (mem_starts (f := 0) s1)
    have hj' : (starts z es)[j]? = some s := hj
    have lt := (asc_get (starts_asc hz pos) hst hj').2 (by omega)
    have hm : s ∈ (starts z es).drop (i + 1) := by
      refine List.mem_iff_getElem?.mpr ⟨j - (i + 1), ?_⟩
      rw [List.getElem?_drop, show i + 1 + (j - (i + 1)) = j by omega]
      exact hj'
    exact sole_no.mp h4 s hm ((own_one hn P (by omega) stop).mpr s3)
  · rintro ⟨h3, h4⟩
    refine ⟨h3, sole_no.mpr fun f hf g => ?_⟩
    have h5 := far f hf
    have h6 := start_bd hz pos (List.mem_of_mem_drop hf)
    obtain ⟨m, hm, hmn⟩ := h4 f (by omega) h6.2
    rw [g] at hm
    exact hmn (List.mem_singleton.mp hm)
end
end NbAi

set_option Elab.async false
set_option linter.all false
set_option maxRecDepth 100000
set_option maxHeartbeats 4000000
/-! a walk in which one server is barred, over all blocks and over some of each stretch. -/
namespace NbAj
open PySem PySem.Spec PyProof.Rows L2 Nb NbE NbS NbF NbP NbK NbL NbX NbW NbZ NbM NbQ NbC NbG NbH NbI NbJ NbO NbA NbD NbN NbAa NbAb NbAg NbAi
/-- blocks q, q + 1, .. (so many) can be taken one after another from slot s on, each in a window of these servers -/
def Way (z : Int) (ms : List Str) (es : List En) : Nat → Int → Int → Prop
  | 0, _, _ => True
  | k + 1, q, s => ∃ t, s ≤ t ∧ InW z ms es q t ∧ Way z ms es k (q + 1) t
def but (ns : List Str) (n : Str) : List Str := ns.filter fun m => decide (m ≠ n)
theorem mem_but {ns : List Str} {n m : Str} : m ∈ but ns n ↔ m ∈ ns ∧ m ≠ n := by
  unfold but
  rw [List.mem_filter, decide_eq_true_eq]
section
variable {z q s t : Int} {ns ms : List Str} {es : List En} {n : Str}
theorem Way.down : ∀ {k : Nat} {q s t : Int}, t ≤ s → Way z ms es k q s → Way z ms es k q t
  | 0, _, _, _, _, _ => trivial
  | k + 1, q, s, t, h, ⟨u, a, b, c⟩ => ⟨u, by omega, b, c⟩
theorem way_step {k : Nat} : Way z ms es (k + 1) q s ↔ sFrom z ms es q s ≤ (es.length : Int) ∧ Way z ms es k (q + 1) (sFrom z ms es q s) := by
  constructor
  · rintro ⟨t, a, b, c⟩
    have h := sFrom_min a b
    have := b.le
    exact ⟨by omega, c.down h⟩
  · rintro ⟨a, b⟩
    obtain ⟨c, d⟩ := sFrom_in a
    exact ⟨_, c, d, b⟩
theorem sFrom_self (h : InW z ms es q s) : sFrom z ms es q s = s := by
  have h1 := sFrom_min (Int.le_refl s) h
  have h2 := sFrom_in (z := z) (ns := ms) (es := es) (q := q) (s := s) (by have := h.le; omega)
  omega
/-- blocks alike are taken in the same slot -/
theorem way_skip : ∀ (j : Nat) {k : Nat} {q s : Int}, (∀ r, q ≤ r → r < q + j → InW z ms es r s) → (Way z ms es (j + k) q s ↔ Way z ms es k (q + j) s)
  | 0, k, q, s, _ => by
    rw [Nat.zero_add, show q + ((0 : Nat) : Int) = q by omega]
  | j + 1, k, q, s, h => by
    rw [show j + 1 + k = (j + k) + 1 by omega, way_step]
    have h0 := h q (Int.le_refl _) (by omega)
    rw [sFrom_self h0, way_skip j (fun r h1 h2 => h r (by omega) (by omega)), show q + 1 + (j : Int) = q + ((j + 1 : Nat) : Int) by omega]
    exact ⟨fun g => g.2, fun g => ⟨h0.le, g⟩⟩
/-- who is not barred owns each block: then there is a way -/
theorem way_of (P : ∀ q, 0 ≤ q → q ≤ topB z es → eI z ns es q ≤ (es.length : Int)) : ∀ (k : Nat) (q s : Int), 0 ≤ q → q + k = topB z es + 1 → pI z ns es q ≤ s → (k = 0 ∨ s ≤ lI z ns es q) → (∀ r, q ≤ r → r ≤ topB z es → ∃ m ∈ ownL z ns es r, m ≠ n) → Way z (but ns n) es k q s
  | 0, _, _, _, _, _, _, _ => trivial
  | k + 1, q, s, h0, hk, s0, s1, ho => by
    have h1 : q ≤ topB z es := by omega
    obtain ⟨m, hm, hmn⟩ := ho q (Int.le_refl _) h1
    obtain ⟨m1, m2⟩ := List.mem_filter.mp hm
    obtain ⟨w, hw⟩ : ∃ w, winO z es m q = some w := by
      cases h : winO z es m q with
      | some w => exact ⟨w, rfl⟩
      | none =>
        unfold slO at m2
        rw [h] at m2
        cases m2
    have sl : s ≤ lI z ns es q := s1.resolve_left (by omega)
    obtain ⟨a, b⟩ := (step_iff P h0 h1 s0 sl m1 hw).mpr m2
    have hs : SlW z es m q (max w.1 s) := slW_iff.mp ⟨w, hw, by omega, a⟩
    have ei : eI z ns es q ≤ max w.1 s := by
      rw [eI_eq h0]
      exact sFrom_min (by omega) (inW_iff.mpr ⟨m, m1, hs⟩)
    refine ⟨max w.1 s, by omega, inW_iff.mpr ⟨m, mem_but.mpr ⟨m1, hmn⟩, hs⟩, way_of P k (q + 1) _ (by omega) (by omega) (by rw [pI_succ h0]; exact ei) ?_ fun r hr hr2 => ho r (by omega) hr2⟩
    rcases (by omega : q = topB z es ∨ q < topB z es) with g | g
    · exact .inl (by omega)
    · have := lI_up P h0 g
      exact .inr (by omega)
theorem way_own (P : ∀ q, 0 ≤ q → q ≤ topB z es → eI z ns es q ≤ (es.length : Int)) : ∀ (k : Nat) (q s : Int), 0 ≤ q → q + k = topB z es + 1 → pI z ns es q ≤ s → Way z (but ns n) es k q s → (k = 0 ∨ s ≤ lI z ns es q) ∧ ∀ r, q ≤ r → r ≤ topB z es → ∃ m ∈ ownL z ns es r, m ≠ n
  | 0, q, s, h0, hk, _, _ => ⟨.inl rfl, fun r h1 h2 => by omega⟩
  | k + 1, q, s, h0, hk, s0, ⟨t, st, ht, hw⟩ => by
    have h1 : q ≤ topB z es := by omega
    obtain ⟨m, hm, hs⟩ := inW_iff.mp ht
    obtain ⟨m1, m2⟩ := mem_but.mp hm
    have hin := inW_iff.mpr ⟨m, m1, hs⟩
    have ei : eI z ns es q ≤ t := by
      rw [eI_eq h0]
      exact sFrom_min (by omega) hin
    obtain ⟨a, b⟩ := way_own P k (q + 1) t (by omega) (by omega) (by rw [pI_succ h0]; exact ei) hw
    have tl : t ≤ lI z ns es q := by
      rcases (by omega : q = topB z es ∨ q < topB z es) with g | g
      · rw [g] at hin ⊢
        rw [lI_top]
        exact sUpTo_max hs.k1 hin
      · rw [lI_eq g]
        exact sUpTo_max (a.resolve_left (by omega)) hin
    refine ⟨.inr (by omega), fun r hr hr2 => ?_⟩
    rcases (by omega : r = q ∨ q + 1 ≤ r) with g | g
    · subst g
      exact ⟨m, List.mem_filter.mpr ⟨m1, slO_iff.mpr ⟨t, hs, ei, tl⟩⟩, m2⟩
    · exact b r g hr2
/-- the law's walk: the block itself, then the others' blocks behind it -/
theorem end_way (P : ∀ q, 0 ≤ q → q ≤ topB z es → eI z ns es q ≤ (es.length : Int)) (h0 : 0 ≤ q) (h1 : q ≤ topB z es) (hn : n ∈ ns) {w : Int × Int} (hw : winO z es n q = some w) :
    (max (pI z ns es q) w.1 ≤ w.2 ∧ Way z (but ns n) es (topB z es - q).toNat (q + 1) (max (pI z ns es q) w.1)) ↔ EndB z ns es n q := by
  have low0 : ∀ a, a = max (pI z ns es q) w.1 → a ≤ w.2 → SlW z es n q a ∧ eI z ns es q ≤ a := fun a ha g => by
    have hs : SlW z es n q a := slW_iff.mp ⟨w, hw, by omega, g⟩
    refine ⟨hs, ?_⟩
    rw [eI_eq h0]
    exact sFrom_min (by omega) (inW_iff.mpr ⟨n, hn, hs⟩)
  constructor
  · rintro ⟨a, b⟩
    obtain ⟨hs, ei⟩ := low0 _ rfl a
    obtain ⟨c, d⟩ := way_own P _ (q + 1) _ (by omega) (by omega) (by rw [pI_succ h0]; exact ei) b
    have tl : max (pI z ns es q) w.1 ≤ lI z ns es q := by
      have hin := inW_iff.mpr ⟨n, hn, hs⟩
      rcases (by omega : q = topB z es ∨ q < topB z es) with g | g
      · rw [g, lI_top, ← g]
        exact sUpTo_max hs.k1 hin
      · rw [lI_eq g]
        exact sUpTo_max (c.resolve_left (by omega)) hin
    exact ⟨List.mem_filter.mpr ⟨hn, slO_iff.mpr ⟨_, hs, ei, tl⟩⟩, fun r h2 h3 => d r (by omega) h3⟩
  · rintro ⟨a, b⟩
    obtain ⟨_, m2⟩ := List.mem_filter.mp a
    have el := e_le_l' P h0 h1
    have pe : pI z ns es q ≤ eI z ns es q := by
      rw [eI_eq h0]
      exact (sFrom_in (z := z) (ns := ns) (es := es) (q := q) (s := pI z ns es q) (by rw [← eI_eq h0]; exact P q h0 h1)).1
    obtain ⟨c, d⟩ := (step_iff P h0 h1 (Int.le_refl _) (by omega) hn hw).mpr m2
    have cc : max (pI z ns es q) w.1 = max w.1 (pI z ns es q) := by omega
    rw [cc]
    obtain ⟨_, ei⟩ := low0 _ cc.symm c
    refine ⟨c, way_of P _ (q + 1) _ (by omega) (by omega) (by rw [pI_succ h0]; exact ei) ?_ fun r h2 h3 => b r (by omega) h3⟩
    rcases (by omega : q = topB z es ∨ q < topB z es) with g | g
    · exact .inl (by omega)
    · have := lI_up P h0 g
      exact .inr (by omega)
/-- no window at all -/
theorem end_none (hw : winO z es n q = none) : ¬ EndB z ns es n q := fun h => by
  obtain ⟨_, m2⟩ := List.mem_filter.mp h.1
  unfold slO at m2
  rw [hw] at m2
  cases m2
/-! ### some blocks of each stretch -/
/-- from block q to E (without it): blocks u, one from each stretch of blocks alike -/
inductive Cover (z : Int) (es : List En) (E : Int) : List Int → Int → Prop
  | nil : Cover z es E [] E
  | cons {q q' : Int} {us : List Int} : q < q' → (∀ e ∈ es, q' = q + 1 ∨ e.2 / z < q ∨ q' ≤ e.2 / z) → Cover z es E us q' → Cover z es E (q :: us) q
theorem Cover.le {E : Int} {us : List Int} {q : Int} (h : Cover z es E us q) : q ≤ E := by
  induction h with
  | nil => exact Int.le_refl _
  | cons a _ _ ih => omega
theorem inW_alike {q q' r : Int} (h : ∀ e ∈ es, e.2 / z < q ∨ q' ≤ e.2 / z) (h1 : q ≤ r) (h2 : r < q') : InW z ms es r t ↔ InW z ms es q t := by
  unfold InW
  rw [wins_gap (ns := ms) h h1 h2]
def walkU (z : Int) (ms : List Str) (es : List En) : List Int → Int → Prop
  | [], _ => True
  | u :: us, s => sFrom z ms es u s ≤ (es.length : Int) ∧ walkU z ms es us (sFrom z ms es u s)
theorem walkU_iff {E : Int} {us : List Int} {q : Int} (h : Cover z es E us q) : ∀ s, walkU z ms es us s ↔ Way z ms es (E - q).toNat q s := by
  induction h with
  | nil =>
    intro s
    rw [Int.sub_self]
    exact Iff.rfl
  | @cons q q' us a b c ih =>
    intro s
    have hle := c.le
    have hk : (E - q).toNat = ((q' - q - 1).toNat + (E - q').toNat) + 1 := by omega
    rw [hk, way_step]
    show _ ∧ walkU z ms es us _ ↔ _
    rw [ih]
    refine and_congr_right fun g => ?_
    have hin := (sFrom_in g).2
    have hj : q + 1 + ((q' - q - 1).toNat : Int) = q' := by omega
    rw [way_skip (q' - q - 1).toNat (fun r h1 h2 => (inW_alike (q := q) (q' := q') (fun e he => ?_) (by omega) (by omega)).mpr hin), hj]
    rcases b e he with g | g
    · omega
    · exact g
theorem walk_low (P : ∀ q, 0 ≤ q → q ≤ topB z es → eI z ns es q ≤ (es.length : Int)) {E : Int} (hE : E ≤ topB z es + 1) {us : List Int} {q : Int} (h : Cover z es E us q) (h0 : 0 ≤ q) : us.foldl (fun s u => sFrom z ns es u s) (pI z ns es q) = pI z ns es E := by
  induction h with
  | nil => rfl
  | @cons q q' us a b c ih =>
    have hle := c.le
    rw [List.foldl_cons, ← eI_eq h0]
    have key : eI z ns es q = pI z ns es q' := by
      unfold pI
      rw [if_neg (by omega)]
      rcases (by omega : q' = q + 1 ∨ q + 1 < q') with g | g
      · rw [g, show q + 1 - 1 = q by omega]
      · exact (gap_e' (f := q) (b := q') (fun e he => by
          rcases b e he with k | k
          · omega
          · exact k) h0 (P q h0 (by omega)) (by omega) (by omega)).symm
    rw [key]
    exact ih (by omega)
/-- sorted, with q, all seen blocks, and each block behind a seen one -/
theorem cover_of {E : Int} : ∀ {us : List Int} {q : Int}, us.Pairwise (· < ·) → (∀ u ∈ us, q ≤ u ∧ u < E) → q ≤ E → (q < E → q ∈ us) → (∀ e ∈ es, q ≤ e.2 / z → e.2 / z < E → e.2 / z ∈ us) → (∀ e ∈ es, q ≤ e.2 / z → e.2 / z + 1 < E → e.2 / z + 1 ∈ us) → Cover z es E us q
  | [], q, _, _, hE, h0, _, _ => by
    have : ¬ q < E := fun g => by cases h0 g
    rw [show q = E by omega]
    exact .nil
  | u :: us, q, hp, hb, hE, h0, h1, h2 => by
    obtain ⟨p1, p2⟩ := List.pairwise_cons.mp hp
    have hu := hb u (List.mem_cons_self ..)
    have huq : u = q := by
      have := h0 (by omega)
      rcases List.mem_cons.mp this with g | g
      · exact g.symm
      · have := p1 q g
        omega
    subst huq
    -- the next one
    have key : ∃ q', u < q' ∧ q' ≤ E ∧ (∀ x ∈ us, q' ≤ x) ∧ (q' < E → q' ∈ us) := by
      cases us with
      | nil => exact ⟨E, by omega, Int.le_refl _, by simp, fun g => by omega⟩
      | cons v r =>
        have hv := hb v (by simp)
        have := p1 v (by simp)
        refine ⟨v, this, by omega, fun x hx => ?_, fun _ => by simp⟩
        rcases List.mem_cons.mp hx with rfl | hx
        · exact Int.le_refl _
        · have := (List.pairwise_cons.mp p2).1 x hx
          omega
    obtain ⟨q', k1, k2, k3, k4⟩ := key
    have out : ∀ r, u < r → r < q' → ¬ r ∈ u :: us := fun r a b g => by
      rcases List.mem_cons.mp g with g | g
      · omega
      · have := k3 r g
        omega
    have inn : ∀ r, r ∈ u :: us → q' ≤ r → r ∈ us := fun r g k => by
      rcases List.mem_cons.mp g with g | g
      · omega
      · exact g
    refine .cons k1 (fun e he => ?_) (cover_of p2 (fun x hx => ⟨k3 x hx, (hb x (List.mem_cons_of_mem _ hx)).2⟩) k2 k4 (fun e he a b => inn _ (h1 e he (by omega) b) a) (fun e he a b => inn _ (h2 e he (by omega) b) (by omega)))
    rcases (by omega : q' = u + 1 ∨ u + 1 < q') with g | g
    · exact .inl g
    · refine .inr ?_
      rcases Int.lt_or_le (e.2 / z) u with k | k
      · exact .inl k
      · refine .inr ?_
        rcases Int.lt_or_le (e.2 / z) q' with l | l
        · exfalso
          rcases (by omega : e.2 / z = u ∨ u < e.2 / z) with m | m
          · have := h2 e he (by omega) (by omega)
            exact out _ (by omega) (by omega) this
          · exact out _ m l (h1 e he (by omega) (by omega))
        · exact l
end
end NbAj

set_option Elab.async false
set_option linter.all false
set_option maxRecDepth 100000
set_option maxHeartbeats 4000000
/-! ranges with gaps are told by their numbers; two servers that take blocks by turns. -/
namespace NbAk
open PySem PySem.Spec PyProof.Rows L2 Nb NbE NbS NbF NbP NbK NbL NbX NbW NbZ NbM NbQ NbC NbG NbH NbI NbJ NbO NbA NbD NbN NbAa NbAb NbAg NbAi NbAj
/-- ranges, ascending, with gaps -/
structure Can (l : List (Int × Int)) : Prop where
  le : ∀ r ∈ l, r.1 ≤ r.2
  gap : l.Pairwise fun a b => a.2 + 1 < b.1
theorem Can.tail {a : Int × Int} {l : List (Int × Int)} (h : Can (a :: l)) : Can l := ⟨fun r hr => h.le r (List.mem_cons_of_mem _ hr), (List.pairwise_cons.mp h.gap).2⟩
theorem inR_cons {k : Int} {a : Int × Int} {l : List (Int × Int)} : InR k (a :: l) ↔ (a.1 ≤ k ∧ k ≤ a.2) ∨ InR k l := by
  unfold InR
  constructor
  · rintro ⟨r, hr, h⟩
    rcases List.mem_cons.mp hr with rfl | hr
    · exact .inl h
    · exact .inr ⟨r, hr, h⟩
  · rintro (h | ⟨r, hr, h⟩)
    · exact ⟨a, List.mem_cons_self .., h⟩
    · exact ⟨r, List.mem_cons_of_mem _ hr, h⟩
theorem inR_far {k : Int} {a : Int × Int} {l : List (Int × Int)} (h : Can (a :: l)) (hk : InR k l) : a.2 + 1 < k := by
  obtain ⟨r, hr, h1, _⟩ := hk
  have := (List.pairwise_cons.mp h.gap).1 r hr
  omega
theorem can_uniq : ∀ {l l' : List (Int × Int)}, Can l → Can l' → (∀ k, InR k l ↔ InR k l') → l = l'
  | [], [], _, _, _ => rfl
  | [], b :: l', _, h', h => by
    obtain ⟨r, hr, _⟩ := (h b.1).mpr (inR_cons.mpr (.inl ⟨Int.le_refl _, h'.le b (List.mem_cons_self ..)⟩))
    cases hr
  | a :: l, [], h', _, h => by
    obtain ⟨r, hr, _⟩ := (h a.1).mp (inR_cons.mpr (.inl ⟨Int.le_refl _, h'.le a (List.mem_cons_self ..)⟩))
    cases hr
  | a :: l, b :: l', ha, hb, h => by
    have la := ha.le a (List.mem_cons_self ..)
    have lb := hb.le b (List.mem_cons_self ..)
    have e1 : a.1 = b.1 := by
      have x := inR_cons.mp ((h a.1).mp (inR_cons.mpr (.inl ⟨Int.le_refl _, la⟩)))
      have y := inR_cons.mp ((h b.1).mpr (inR_cons.mpr (.inl ⟨Int.le_refl _, lb⟩)))
      rcases x with x | x
      · rcases y with y | y
        · omega
        · have := inR_far ha y
          omega
      · have := inR_far hb x
        rcases y with y | y
        · omega
        · have := inR_far ha y
          omega
    have e2 : a.2 = b.2 := by
      rcases Int.lt_trichotomy a.2 b.2 with g | g | g
      · have x := inR_cons.mp ((h (a.2 + 1)).mpr (inR_cons.mpr (.inl ⟨by omega, by omega⟩)))
        rcases x with x | x
        · omega
        · have := inR_far ha x
          omega
      · exact g
      · have x := inR_cons.mp ((h (b.2 + 1)).mp (inR_cons.mpr (.inl ⟨by omega, by omega⟩)))
        rcases x with x | x
        · omega
        · have := inR_far hb x
          omega
    have eab : a = b := Prod.ext e1 e2
    subst eab
    rw [can_uniq ha.tail hb.tail fun k => ?_]
    constructor
    · intro g
      have f := inR_far ha g
      rcases inR_cons.mp ((h k).mp (inR_cons.mpr (.inr g))) with x | x
      · omega
      · exact x
    · intro g
      have f := inR_far hb g
      rcases inR_cons.mp ((h k).mpr (inR_cons.mpr (.inr g))) with x | x
      · omega
      · exact x
theorem can_app {l : List (Int × Int)} {p : Int × Int} : Can (l ++ [p]) ↔ Can l ∧ p.1 ≤ p.2 ∧ ∀ a ∈ l, a.2 + 1 < p.1 := by
  constructor
  · rintro ⟨h1, h2⟩
    obtain ⟨a, _, c⟩ := List.pairwise_append.mp h2
    exact ⟨⟨fun r hr => h1 r (List.mem_append_left _ hr), a⟩, h1 p (List.mem_append_right _ (by simp)), fun x hx => c x hx p (by simp)⟩
  · rintro ⟨⟨h1, h2⟩, h3, h4⟩
    refine ⟨fun r hr => ?_, List.pairwise_append.mpr ⟨h2, by simp, fun x hx y hy => ?_⟩⟩
    · rcases List.mem_append.mp hr with g | g
      · exact h1 r g
      · rw [List.mem_singleton.mp g]
        exact h3
    · rw [List.mem_singleton.mp hy]
      exact h4 x hx
theorem joinL_can : ∀ (prs acc : List (Int × Int)), Can acc → (∀ r ∈ prs, r.1 ≤ r.2) → prs.Pairwise (fun a b => a.2 < b.1) → (∀ a ∈ acc, ∀ b ∈ prs, a.2 < b.1) → Can (joinL acc prs)
  | [], acc, h, _, _, _ => by
    unfold joinL
    exact h
  | p :: r, acc, h, hl, hp, ha => by
    obtain ⟨p1, p2⟩ := List.pairwise_cons.mp hp
    have lp := hl p (List.mem_cons_self ..)
    rcases List.eq_nil_or_concat acc with rfl | ⟨ai, al, rfl⟩
    · have : joinL [] (p :: r) = joinL [p] r := rfl
      rw [this]
      refine joinL_can r [p] ⟨fun x hx => by rw [List.mem_singleton.mp hx]; exact lp, by simp⟩ (fun x hx => hl x (List.mem_cons_of_mem _ hx)) p2 fun a ha' b hb => ?_
      rw [List.mem_singleton.mp ha']
      exact p1 b hb
    · rw [List.concat_eq_append] at h ha ⊢
      obtain ⟨c1, c2, c3⟩ := can_app.mp h
      have alp := ha al (List.mem_append_right _ (by simp)) p (List.mem_cons_self ..)
      by_cases g : al.2 = p.1 - 1
      · rw [joinL_touch g]
        refine joinL_can r _ (can_app.mpr ⟨c1, by show al.1 ≤ p.2; omega, c3⟩) (fun x hx => hl x (List.mem_cons_of_mem _ hx)) p2 fun a ha' b hb => ?_
        rcases List.mem_append.mp ha' with k | k
        · exact ha a (List.mem_append_left _ k) b (List.mem_cons_of_mem _ hb)
        · rw [List.mem_singleton.mp k]
          exact p1 b hb
      · rw [joinL_far g]
        refine joinL_can r _ (can_app.mpr ⟨h, lp, fun a ha' => ?_⟩) (fun x hx => hl x (List.mem_cons_of_mem _ hx)) p2 fun a ha' b hb => ?_
        · rcases List.mem_append.mp ha' with k | k
          · have := c3 a k
            omega
          · rw [List.mem_singleton.mp k]
            omega
        · rcases List.mem_append.mp ha' with k | k
          · exact ha a k b (List.mem_cons_of_mem _ hb)
          · rw [List.mem_singleton.mp k]
            exact p1 b hb
section
variable {z q r : Int} {ns : List Str} {es : List En} {n m : Str}
theorem own_tale (hz : 1 ≤ z) (pos : ∀ e ∈ es, 0 ≤ e.2) {tk : List Take} {fr : Int} (T : Tale z es tk fr) (hn : ∀ t ∈ tk, t.n ∈ ns) {t : Take} (ht : t ∈ tk) (h1 : t.a ≤ q) (h2 : q ≤ t.b) (hq : q ≤ topB z es) : t.n ∈ ownL z ns es q := by
  obtain ⟨lo, hi, hw, g1, g2⟩ := T.win ht h1 h2
  obtain ⟨e1, e2⟩ := tale_el hz pos T hn ht h1 h2 hq
  exact List.mem_filter.mpr ⟨hn t ht, slO_iff.mpr ⟨(t.s : Int), slW_iff.mp ⟨(lo, hi), hw, g1, g2⟩, e1, e2⟩⟩
theorem own_seen {e : En} (he : e ∈ es) (hm : m ∈ ownL z ns es (e.2 / z)) : m = e.1 := by
  obtain ⟨_, m2⟩ := List.mem_filter.mp hm
  obtain ⟨i, hi⟩ := List.mem_iff_getElem?.mp he
  obtain ⟨t, ht, _, _⟩ := slO_iff.mp m2
  exact (ht.own i e hi rfl).symm
end
/-! ### the ladder -/
abbrev sA : Str := Str.ofString "a"
abbrev sB : Str := Str.ofString "b"
def ladE (z : Int) : Nat → List En
  | 0 => [(sA, 0)]
  | k + 1 => ladE z k ++ [(sB, 2 * ((k : Int) + 1) * z)]
def lad (z : Int) (k : Nat) (back : Bool) : List En := ladE z k ++ if back = true then [(sA, (2 * (k : Int) + 1) * z)] else []
abbrev nsAB : List Str := [sA, sB]
theorem ab_ne : sA ≠ sB := by decide +kernel
theorem crewAB : Crew nsAB := ⟨by decide, by decide +kernel, by decide +kernel⟩
theorem ladE_len (z : Int) : ∀ k : Nat, (ladE z k).length = k + 1
  | 0 => rfl
  | k + 1 => by
    unfold ladE
    rw [List.length_append, ladE_len z k]
    rfl
theorem ladE_in {z : Int} : ∀ {k : Nat} {e : En}, e ∈ ladE z k ↔ e = (sA, 0) ∨ ∃ i : Nat, i < k ∧ e = (sB, 2 * ((i : Int) + 1) * z)
  | 0, e => by
    unfold ladE
    rw [List.mem_singleton]
    exact ⟨.inl, fun h => h.elim id fun ⟨i, h, _⟩ => absurd h (by omega)⟩
  | k + 1, e => by
    unfold ladE
    rw [List.mem_append, ladE_in, List.mem_singleton]
    constructor
    · rintro ((h | ⟨i, h1, h2⟩) | h)
      · exact .inl h
      · exact .inr ⟨i, by omega, h2⟩
      · exact .inr ⟨k, by omega, h⟩
    · rintro (h | ⟨i, h1, h2⟩)
      · exact .inl (.inl h)
      · rcases (by omega : i < k ∨ i = k) with g | g
        · exact .inl (.inr ⟨i, g, h2⟩)
        · subst g
          exact .inr h2
theorem lad_in {z : Int} {k : Nat} {back : Bool} {e : En} : e ∈ lad z k back ↔ e = (sA, 0) ∨ (∃ i : Nat, i < k ∧ e = (sB, 2 * ((i : Int) + 1) * z)) ∨ (back = true ∧ e = (sA, (2 * (k : Int) + 1) * z)) := by
  unfold lad
  rw [List.mem_append, ladE_in]
  cases back
  · simp
  · simp [or_assoc]
theorem lad_pos {z : Int} (hz : 1 ≤ z) {k : Nat} {back : Bool} : ∀ e ∈ lad z k back, 0 ≤ e.2 := fun e he => by
  rcases lad_in.mp he with rfl | ⟨i, _, rfl⟩ | ⟨_, rfl⟩
  · exact Int.le_refl _
  · exact Int.mul_nonneg (by omega) (by omega)
  · exact Int.mul_nonneg (by omega) (by omega)
structure LadT (z : Int) (k : Nat) (es : List En) (both : Bool) (tk : List Take) (fr : Int) : Prop where
  T : Tale z es tk fr
  n : ∀ t ∈ tk, t.n ∈ nsAB
  zero : ∃ t ∈ tk, t.n = sA ∧ t.a ≤ 0 ∧ 0 ≤ t.b
  b : both = false → ∀ r : Int, 1 ≤ r → r ≤ 2 * k → ∃ t ∈ tk, t.n = sB ∧ t.a ≤ r ∧ r ≤ t.b
  a : both = true → ∀ i : Nat, i < k → ∃ t ∈ tk, t.n = sA ∧ t.a ≤ 2 * (i : Int) + 1 ∧ 2 * (i : Int) + 1 ≤ t.b
theorem lad_tale {z : Int} (hz : 1 ≤ z) (both : Bool) : ∀ k : Nat, ∃ tk, LadT z k (ladE z k) both tk (2 * (k : Int) + 1)
  | 0 => by
    have T := (tale_nil z).take (Int.le_refl 0) (m := 1) (by decide) sA
    have S := T.show (e := (sA, 0)) (t0 := ⟨0, 0 + 1 - 1, sA, 0⟩) (List.mem_append_right _ (List.mem_singleton.mpr rfl)) rfl (by show (0 : Int) + 1 - 1 = 0 / z; rw [Int.zero_ediv]; rfl) (fun t ht _ => by
      rw [List.nil_append, List.mem_singleton] at ht
      subst ht
      show (0 : Int) + 1 - 1 ≤ 0 / z
      rw [Int.zero_ediv]
      decide) (fun f hf => by simp at hf)
    refine ⟨_, S, fun t ht => ?_, ⟨_, List.mem_append_right _ (List.mem_singleton.mpr rfl), rfl, Int.le_refl _, by show (0 : Int) ≤ 0 + 1 - 1; decide⟩, fun _ r h1 h2 => by omega, fun _ i h => by omega⟩
    rw [List.nil_append, List.mem_singleton] at ht
    subst ht
    simp
  | k + 1 => by
    obtain ⟨tk, L⟩ := lad_tale hz both k
    have hlt : ∀ f ∈ ladE z k, f.2 < 2 * ((k : Int) + 1) * z := fun f hf => by
      rcases ladE_in.mp hf with rfl | ⟨i, hi, rfl⟩
      · exact Int.mul_pos (by omega) (by omega)
      · exact Int.mul_lt_mul_of_pos_right (by omega) (by omega)
    have hdiv : (2 * ((k : Int) + 1) * z) / z = 2 * ((k : Int) + 1) := Int.mul_ediv_cancel _ (by omega)
    have hcast : ((k + 1 : Nat) : Int) = (k : Int) + 1 := by omega
    cases both with
    | false =>
      have T := L.T.take (by omega) (m := 2) (by decide) sB
      have S := T.show (e := (sB, 2 * ((k : Int) + 1) * z)) (t0 := ⟨2 * (k : Int) + 1, 2 * (k : Int) + 1 + 2 - 1, sB, (ladE z k).length⟩) (List.mem_append_right _ (List.mem_singleton.mpr rfl)) rfl (by show 2 * (k : Int) + 1 + 2 - 1 = _ / z; rw [hdiv]; omega) (fun t ht _ => by
        have := (T.rng t ht).2.2
        show t.b ≤ _ / z
        rw [hdiv]
        omega) (fun f hf _ => hlt f hf)
      rw [show 2 * (k : Int) + 1 + 2 = 2 * ((k + 1 : Nat) : Int) + 1 by omega] at S
      refine ⟨_, S, fun t ht => ?_, ?_, fun _ r h1 h2 => ?_, fun h => by cases h⟩
      · rcases List.mem_append.mp ht with g | g
        · exact L.n t g
        · rw [List.mem_singleton.mp g]
          simp
      · obtain ⟨t, ht, g⟩ := L.zero
        exact ⟨t, List.mem_append_left _ ht, g⟩
      · rcases (by omega : r ≤ 2 * (k : Int) ∨ 2 * (k : Int) < r) with g | g
        · obtain ⟨t, ht, g'⟩ := L.b rfl r h1 g
          exact ⟨t, List.mem_append_left _ ht, g'⟩
        · exact ⟨_, List.mem_append_right _ (List.mem_singleton.mpr rfl), rfl, by show 2 * (k : Int) + 1 ≤ r; omega, by show r ≤ 2 * (k : Int) + 1 + 2 - 1; omega⟩
    | true =>
      have T0 := L.T.take (by omega) (m := 1) (by decide) sA
      have T := T0.take (by omega) (m := 1) (by decide) sB
      have S := T.show (e := (sB, 2 * ((k : Int) + 1) * z)) (t0 := ⟨2 * (k : Int) + 1 + 1, 2 * (k : Int) + 1 + 1 + 1 - 1, sB, (ladE z k).length⟩) (List.mem_append_right _ (List.mem_singleton.mpr rfl)) rfl (by show 2 * (k : Int) + 1 + 1 + 1 - 1 = _ / z; rw [hdiv]; omega) (fun t ht _ => by
        have := (T.rng t ht).2.2
        show t.b ≤ _ / z
        rw [hdiv]
        omega) (fun f hf _ => hlt f hf)
      rw [show 2 * (k : Int) + 1 + 1 + 1 = 2 * ((k + 1 : Nat) : Int) + 1 by omega] at S
      refine ⟨_, S, fun t ht => ?_, ?_, (fun h => by cases h), fun _ i hi => ?_⟩
      · rcases List.mem_append.mp ht with g | g
        · rcases List.mem_append.mp g with g | g
          · exact L.n t g
          · rw [List.mem_singleton.mp g]
            simp
        · rw [List.mem_singleton.mp g]
          simp
      · obtain ⟨t, ht, g⟩ := L.zero
        exact ⟨t, List.mem_append_left _ (List.mem_append_left _ ht), g⟩
      · rcases (by omega : i < k ∨ i = k) with g | g
        · obtain ⟨t, ht, g'⟩ := L.a rfl i g
          exact ⟨t, List.mem_append_left _ (List.mem_append_left _ ht), g'⟩
        · subst g
          exact ⟨_, List.mem_append_left _ (List.mem_append_right _ (List.mem_singleton.mpr rfl)), rfl, Int.le_refl _, by show 2 * (i : Int) + 1 ≤ 2 * (i : Int) + 1 + 1 - 1; omega⟩
theorem lad_tale2 {z : Int} (hz : 1 ≤ z) (both back : Bool) (k : Nat) : ∃ tk fr, LadT z k (lad z k back) both tk fr := by
  obtain ⟨tk, L⟩ := lad_tale hz both k
  cases back with
  | false =>
    refine ⟨tk, 2 * (k : Int) + 1, ?_⟩
    unfold lad
    rw [if_neg (by decide), List.append_nil]
    exact L
  | true =>
    have hdiv : ((2 * (k : Int) + 1) * z) / z = 2 * (k : Int) + 1 := Int.mul_ediv_cancel _ (by omega)
    have T := L.T.take (by omega) (m := 1) (by decide) sA
    have S := T.show (e := (sA, (2 * (k : Int) + 1) * z)) (t0 := ⟨2 * (k : Int) + 1, 2 * (k : Int) + 1 + 1 - 1, sA, (ladE z k).length⟩) (List.mem_append_right _ (List.mem_singleton.mpr rfl)) rfl (by show 2 * (k : Int) + 1 + 1 - 1 = _ / z; rw [hdiv]; omega) (fun t ht _ => by
      have := (T.rng t ht).2.2
      show t.b ≤ _ / z
      rw [hdiv]
      omega) (fun f hf hfa => by
        rcases ladE_in.mp hf with rfl | ⟨i, hi, rfl⟩
        · exact Int.mul_pos (by omega) (by omega)
        · exact absurd hfa.symm ab_ne)
    have w : ∀ (P : Take → Prop), (∃ t ∈ tk, P t) → ∃ t ∈ tk ++ [⟨2 * (k : Int) + 1, 2 * (k : Int) + 1 + 1 - 1, sA, (ladE z k).length⟩], P t := fun P ⟨t, a, b⟩ => ⟨t, List.mem_append_left _ a, b⟩
    refine ⟨_, 2 * (k : Int) + 1 + 1, ?_, fun t ht => ?_, w _ L.zero, fun h r h1 h2 => w _ (L.b h r h1 h2), fun h i hi => w _ (L.a h i hi)⟩
    · unfold lad
      rw [if_pos rfl]
      exact S
    · rcases List.mem_append.mp ht with g | g
      · exact L.n t g
      · rw [List.mem_singleton.mp g]
        simp
section
variable {z : Int} {k : Nat} {back : Bool}
theorem lad_ok (hz : 1 ≤ z) : obsD z nsAB (lad z k back) = .none := by
  obtain ⟨tk, fr, L⟩ := lad_tale2 hz false back k
  exact L.T.obs L.n
theorem lad_div (hz : 1 ≤ z) {x : Int} : x * z / z = x := Int.mul_ediv_cancel _ (by omega)
theorem lad_top (hz : 1 ≤ z) : topB z (lad z k back) = 2 * (k : Int) + if back = true then 1 else 0 := by
  have hle : topB z (lad z k back) ≤ 2 * (k : Int) + if back = true then 1 else 0 := by
    rcases top_mem (es := lad z k back) hz (lad_pos hz) with ⟨_, h⟩ | ⟨_, e, he, h⟩
    · rw [h]
      split <;> omega
    · rw [← h]
      rcases lad_in.mp he with rfl | ⟨i, _, rfl⟩ | ⟨g, rfl⟩
      · show (0 : Int) / z ≤ _
        rw [Int.zero_ediv]
        split <;> omega
      · show 2 * ((i : Int) + 1) * z / z ≤ _
        rw [lad_div hz]
        split <;> omega
      · show (2 * (k : Int) + 1) * z / z ≤ _
        rw [lad_div hz, if_pos g]
        omega
  have hge : (2 * (k : Int) + if back = true then 1 else 0) ≤ topB z (lad z k back) := by
    by_cases g : back = true
    · have := topB_le (z := z) (lad_in.mpr (.inr (.inr ⟨g, rfl⟩)) : ((sA, (2 * (k : Int) + 1) * z) : En) ∈ lad z k back)
      rw [show ((sA, (2 * (k : Int) + 1) * z) : En).2 = (2 * (k : Int) + 1) * z from rfl, lad_div hz] at this
      rw [if_pos g]
      omega
    · rw [if_neg g]
      cases k with
      | zero =>
        have := topB_le (z := z) (lad_in.mpr (.inl rfl) : ((sA, 0) : En) ∈ lad z 0 back)
        rw [show ((sA, 0) : En).2 = 0 from rfl, Int.zero_ediv] at this
        omega
      | succ k =>
        have := topB_le (z := z) (lad_in.mpr (.inr (.inl ⟨k, by omega, rfl⟩)) : ((sB, 2 * ((k : Int) + 1) * z) : En) ∈ lad z (k + 1) back)
        rw [show ((sB, 2 * ((k : Int) + 1) * z) : En).2 = 2 * ((k : Int) + 1) * z from rfl, lad_div hz] at this
        omega
  omega
theorem lad_b (hz : 1 ≤ z) {r : Int} (h1 : 1 ≤ r) (h2 : r ≤ 2 * (k : Int)) : sB ∈ ownL z nsAB (lad z k back) r := by
  obtain ⟨tk, fr, L⟩ := lad_tale2 hz false back k
  obtain ⟨t, ht, hn, a, b⟩ := L.b rfl r h1 h2
  rw [← hn]
  exact own_tale hz (lad_pos hz) L.T L.n ht a b (by rw [lad_top hz]; split <;> omega)
theorem lad_a (hz : 1 ≤ z) {i : Nat} (h : i < k) : sA ∈ ownL z nsAB (lad z k back) (2 * (i : Int) + 1) := by
  obtain ⟨tk, fr, L⟩ := lad_tale2 hz true back k
  obtain ⟨t, ht, hn, a, b⟩ := L.a rfl i h
  rw [← hn]
  exact own_tale hz (lad_pos hz) L.T L.n ht a b (by rw [lad_top hz]; split <;> omega)
theorem lad_0 (hz : 1 ≤ z) : sA ∈ ownL z nsAB (lad z k back) 0 := by
  obtain ⟨tk, fr, L⟩ := lad_tale2 hz true back k
  obtain ⟨t, ht, hn, a, b⟩ := L.zero
  rw [← hn]
  exact own_tale hz (lad_pos hz) L.T L.n ht a b (by rw [lad_top hz]; split <;> omega)
theorem lad_only0 (hz : 1 ≤ z) {m : Str} (h : m ∈ ownL z nsAB (lad z k back) 0) : m = sA := by
  refine own_seen (z := z) (ns := nsAB) (es := lad z k back) (e := (sA, 0)) (lad_in.mpr (.inl rfl)) ?_
  show m ∈ ownL z nsAB (lad z k back) (0 / z)
  rw [Int.zero_ediv]
  exact h
theorem lad_onlyb (hz : 1 ≤ z) {i : Nat} (hi : i < k) {m : Str} (h : m ∈ ownL z nsAB (lad z k back) (2 * ((i : Int) + 1))) : m = sB := by
  refine own_seen (z := z) (ns := nsAB) (es := lad z k back) (e := (sB, 2 * ((i : Int) + 1) * z)) (lad_in.mpr (.inr (.inl ⟨i, hi, rfl⟩))) ?_
  show m ∈ ownL z nsAB (lad z k back) (2 * ((i : Int) + 1) * z / z)
  rw [lad_div hz]
  exact h
theorem lad_onlya (hz : 1 ≤ z) {m : Str} (h : m ∈ ownL z nsAB (lad z k true) (2 * (k : Int) + 1)) : m = sA := by
  refine own_seen (z := z) (ns := nsAB) (es := lad z k true) (e := (sA, (2 * (k : Int) + 1) * z)) (lad_in.mpr (.inr (.inr ⟨rfl, rfl⟩))) ?_
  show m ∈ ownL z nsAB (lad z k true) ((2 * (k : Int) + 1) * z / z)
  rw [lad_div hz]
  exact h
/-- a can end with block 0 and with each hidden block, if it has no block behind -/
theorem lad_end_a (hz : 1 ≤ z) {q : Int} (h : q = 0 ∨ ∃ i : Nat, i < k ∧ q = 2 * (i : Int) + 1) : EndB z nsAB (lad z k false) sA q := by
  refine ⟨?_, fun r h1 h2 => ⟨sB, lad_b hz ?_ ?_, ab_ne.symm⟩⟩
  · rcases h with rfl | ⟨i, hi, rfl⟩
    · exact lad_0 hz
    · exact lad_a hz hi
  · rcases h with rfl | ⟨i, hi, rfl⟩ <;> omega
  · rw [lad_top hz, if_neg (by decide)] at h2
    omega
theorem lad_no_a (hz : 1 ≤ z) {q : Int} (h : q ≤ 2 * (k : Int)) : ¬ EndB z nsAB (lad z k true) sA q := fun g => by
  obtain ⟨m, hm, hmn⟩ := g.2 (2 * (k : Int) + 1) (by omega) (by rw [lad_top hz, if_pos rfl]; omega)
  exact hmn (lad_onlya hz hm)
theorem lad_no_b (hz : 1 ≤ z) {q : Int} (hk : 0 < k) (h : q < 2 * (k : Int)) : ¬ EndB z nsAB (lad z k back) sB q := fun g => by
  cases k with
  | zero => omega
  | succ j =>
    obtain ⟨m, hm, hmn⟩ := g.2 (2 * ((j : Int) + 1)) (by omega) (by rw [lad_top hz]; split <;> omega)
    exact hmn (lad_onlyb hz (Nat.lt_succ_self j) hm)
theorem lad_end_b (hz : 1 ≤ z) (hk : 0 < k) : EndB z nsAB (lad z k back) sB (2 * (k : Int)) := by
  refine ⟨lad_b hz (by omega) (Int.le_refl _), fun r h1 h2 => ?_⟩
  rw [lad_top hz] at h2
  obtain ⟨_, P⟩ := (poss_iff hz (lad_pos hz)).mp (lad_ok (k := k) (back := back) hz)
  by_cases g : back = true
  · subst g
    rw [if_pos rfl] at h2
    obtain rfl : r = 2 * (k : Int) + 1 := by omega
    have ne := own_some P (show (0 : Int) ≤ 2 * (k : Int) + 1 by omega) (by rw [lad_top hz, if_pos rfl]; omega)
    obtain ⟨m, hm⟩ := List.exists_mem_of_ne_nil _ ne
    exact ⟨m, hm, by rw [lad_onlya hz hm]; exact ab_ne⟩
  · rw [if_neg g] at h2
    omega
end
end NbAk

set_option Elab.async false
set_option linter.all false
set_option maxRecDepth 100000
set_option maxHeartbeats 4000000
/-! repr of True and False. -/
namespace NbAl
open PySem PySem.Spec PyProof.Rows L2 Nb NbE NbS NbF NbP NbK NbL NbX NbW NbZ NbM NbQ NbC NbG NbH
variable {X : Cx}
def boolT (b : Bool) : Str := if b = true then Str.ofString "True" else Str.ofString "False"
theorem call_reprB : CallR X (.builtin "repr") (fun xs H Q => ∃ b, xs = [V.bl b] ∧ Q (.str (boolT b)) H) := by
  intro pins s σ H xs us Q I r h
  obtain ⟨b, rfl, q⟩ := h
  obtain ⟨u, rfl, r1⟩ := vals1 r
  cases r1
  refine PySem.P.repr_of_bool ?_
  cases b
  · exact ⟨.str _, H, I.tok _, ⟨_, rfl⟩, q⟩
  · exact ⟨.str _, H, I.tok _, ⟨_, rfl⟩, q⟩
end NbAl

set_option Elab.async false
set_option linter.all false
set_option maxRecDepth 100000
set_option maxHeartbeats 4000000
/-! which number can follow; ranges of which the last one may have no end. -/
namespace NbAm
open PySem PySem.Spec PyProof.Rows L2 Nb NbE NbS NbF NbP NbK NbL NbX NbW NbZ NbM NbQ NbC NbG NbH NbI NbJ NbO NbA NbD NbN NbAa NbAb NbAg NbAi NbAj NbAk
section
variable {z q s t k : Int} {ns ms : List Str} {es es' : List En} {n : Str}
theorem way_imp : ∀ {j : Nat} {q s : Int}, (∀ r t, q ≤ r → r < q + j → InW z ms es r t → InW z ns es' r t) → Way z ms es j q s → Way z ns es' j q s
  | 0, _, _, _, _ => trivial
  | j + 1, q, s, h, ⟨t, a, b, c⟩ => ⟨t, a, h q t (Int.le_refl _) (by omega) b, way_imp (fun r t h1 h2 => h r t (by omega) (by omega)) c⟩
theorem way_poss : ∀ {j : Nat} {q s : Int}, 0 ≤ q → pI z ns es q ≤ s → Way z ns es j q s → ∀ r, q ≤ r → r < q + j → eI z ns es r ≤ (es.length : Int)
  | 0, _, _, _, _, _, r, h1, h2 => by omega
  | j + 1, q, s, h0, hs, ⟨t, a, b, c⟩, r, h1, h2 => by
    have e : eI z ns es q ≤ t := by
      rw [eI_eq h0]
      exact sFrom_min (by omega) b
    rcases (by omega : r = q ∨ q + 1 ≤ r) with g | g
    · subst g
      have := b.le
      omega
    · exact way_poss (by omega) (by rw [pI_succ h0]; exact e) c r g (by omega)
theorem way_low : ∀ {j : Nat} {q : Int} {i : Nat}, 0 ≤ q → (∀ r, q ≤ r → r < q + j → InW z ns es' r (eI z ns es r)) → Way z ns es' i (q + j) (pI z ns es (q + j)) → (∀ r, q ≤ r → r < q + j → pI z ns es r ≤ eI z ns es r) → Way z ns es' (j + i) q (pI z ns es q)
  | 0, q, i, _, _, h, _ => by
    rw [Nat.zero_add]
    rw [show q + ((0 : Nat) : Int) = q by omega] at h
    exact h
  | j + 1, q, i, h0, hw, h, hm => by
    rw [show j + 1 + i = (j + i) + 1 by omega]
    refine ⟨eI z ns es q, hm q (Int.le_refl _) (by omega), hw q (Int.le_refl _) (by omega), ?_⟩
    rw [← pI_succ h0]
    refine way_low (by omega) (fun r h1 h2 => hw r (by omega) (by omega)) ?_ fun r h1 h2 => hm r (by omega) (by omega)
    rw [show q + 1 + (j : Int) = q + ((j + 1 : Nat) : Int) by omega]
    exact h
theorem snoc_any {P : Nat → En → Prop} {e : En} (h : ∀ (i : Nat) x, es[i]? = some x → P i x) (h2 : P es.length e) : ∀ (i : Nat) x, (es ++ [e])[i]? = some x → P i x := fun i x hx => by
  rcases snoc_get hx with g | ⟨rfl, rfl⟩
  · exact h i x g
  · exact h2
/-- a slot stays one when an entry comes, if the entry does not speak against it -/
theorem slW_snoc {m : Str} {e : En} {r : Int} (h : SlW z es m r t) (h1 : e.2 / z = r → e.1 = m) (h2 : e.1 = m → ¬ e.2 / z < r) : SlW z (es ++ [e]) m r t := by
  refine ⟨h.k0, by have := h.k1; rw [List.length_append]; omega, snoc_any h.own h1, snoc_any h.lo fun a b => absurd b (h2 a), snoc_any h.hi fun a b => ?_⟩
  have := h.k1
  omega
theorem slW_front {m : Str} {e : En} {r : Int} (h : SlW z (es ++ [e]) m r t) (ht : t ≤ (es.length : Int)) : SlW z es m r t := by
  have := h.front
  rwa [show min t (es.length : Int) = t by omega] at this
theorem topB_snoc_eq (hz : 1 ≤ z) (pos : ∀ x ∈ es ++ [(n, k)], 0 ≤ x.2) (h : k / z ≤ topB z es) : topB z (es ++ [(n, k)]) = topB z es := by
  have h1 := (topB_snoc hz pos).1
  rcases top_mem hz pos with ⟨g, _⟩ | ⟨_, e, he, g⟩
  · simp at g
  · rcases List.mem_append.mp he with f | f
    · have := topB_le (z := z) f
      omega
    · rw [List.mem_singleton.mp f] at g
      replace g : k / z = _ := g
      omega
/-- which number can follow -/
theorem follow_iff (hz : 1 ≤ z) (pos : ∀ e ∈ es, 0 ≤ e.2) (ho : obsD z ns es = .none) (hn : n ∈ ns) (hk : 0 ≤ k) : obsD z ns (es ++ [(n, k)]) = .none ↔ (∀ e ∈ es, e.1 = n → e.2 < k) ∧ (topB z es < k / z ∨ EndB z ns es n (k / z)) := by
  obtain ⟨F, P⟩ := (poss_iff hz pos).mp ho
  have pos2 : ∀ e ∈ es ++ [(n, k)], 0 ≤ e.2 := fun e he => by
    rcases List.mem_append.mp he with g | g
    · exact pos e g
    · rw [List.mem_singleton.mp g]
      exact hk
  have q0 : 0 ≤ k / z := Int.ediv_nonneg hk (by omega)
  have newi : (es ++ [(n, k)])[es.length]? = some (n, k) := by simp
  constructor
  · intro h
    obtain ⟨F2, P2⟩ := (poss_iff hz pos2).mp h
    obtain ⟨_, fs⟩ := fine_snoc.mp F2
    have last : ∀ e ∈ es, e.1 = n → e.2 < k := fun e he g => by
      obtain ⟨a, _, c⟩ := fs e he
      have := c g
      replace a : e.2 ≠ k := a
      replace this : e.2 ≤ k := this
      omega
    refine ⟨last, ?_⟩
    rcases Int.lt_or_le (topB z es) (k / z) with g | g
    · exact .inl g
    refine .inr ?_
    have tp := topB_snoc_eq hz pos2 g
    -- the slots of the longer log
    have sl : ∀ r, 0 ≤ r → r ≤ topB z es → ∃ m ∈ ns, SlW z (es ++ [(n, k)]) m r (eI z ns (es ++ [(n, k)]) r) := fun r h0 h1 => inW_iff.mp (eI_in P2 h0 (by omega))
    have small : ∀ r, 0 ≤ r → r ≤ topB z es → eI z ns (es ++ [(n, k)]) r ≤ (es.length : Int) ∧ (k / z < topB z es → eI z ns (es ++ [(n, k)]) r < (es.length : Int)) := fun r h0 h1 => by
      have up := eI_mono' (z := z) (ns := ns) (es := es ++ [(n, k)]) h0 h1
      obtain ⟨m, hm, hs⟩ := sl (topB z es) (by omega) (Int.le_refl _)
      rcases (by omega : k / z = topB z es ∨ k / z < topB z es) with g2 | g2
      · have hmn : n = m := hs.own es.length (n, k) newi g2
        have := hs.hi es.length (n, k) newi hmn (by show ¬ k / z < topB z es; omega)
        exact ⟨by omega, fun h => by omega⟩
      · rcases top_mem hz pos with ⟨e0, _⟩ | ⟨_, e, he, hq⟩
        · rw [e0] at g
          have : topB z ([] : List En) = -1 := rfl
          omega
        · obtain ⟨i, hi⟩ := List.mem_iff_getElem?.mp he
          have hi2 := (List.getElem?_eq_some_iff.mp hi).1
          have hi3 := get_front (e := (n, k)) hi
          have hm' := hs.own i e hi3 hq
          have := hs.hi i e hi3 hm' (by omega)
          exact ⟨by omega, fun _ => by omega⟩
    have ev := (poss_front hz pos2 h).2
    have own : ∀ r, 0 ≤ r → r ≤ topB z es → ∀ m, m ∈ ns → SlW z (es ++ [(n, k)]) m r (eI z ns (es ++ [(n, k)]) r) → m ∈ ownL z ns es r := fun r h0 h1 m hm hs => by
      have sm := (small r h0 h1).1
      obtain ⟨e1, e2⟩ := ev r h0 h1
      have el := e_le_l' P2 h0 (show r ≤ topB z (es ++ [(n, k)]) by omega)
      exact List.mem_filter.mpr ⟨hm, slO_iff.mpr ⟨_, slW_front hs sm, e1, by omega⟩⟩
    refine ⟨?_, fun r h1 h2 => ?_⟩
    · obtain ⟨m, hm, hs⟩ := sl (k / z) q0 g
      have hmn : n = m := hs.own es.length (n, k) newi rfl
      rw [← hmn] at hs hm
      exact own _ q0 g n hm hs
    · obtain ⟨m, hm, hs⟩ := sl r (by omega) h2
      refine ⟨m, own r (by omega) h2 m hm hs, fun e => ?_⟩
      have := hs.lo es.length (n, k) newi e.symm h1
      have := (small r (by omega) h2).1
      omega
  · rintro ⟨last, h⟩
    rcases h with h | hE
    · exact poss_far hz pos2 hn h ho
    · rcases Int.lt_or_le (topB z es) (k / z) with c | g
      · exact poss_far hz pos2 hn c ho
      have tp := topB_snoc_eq hz pos2 g
      rw [poss_iff hz pos2]
      obtain ⟨_, n2⟩ := List.mem_filter.mp hE.1
      have seen : ∀ e ∈ es, e.2 / z = k / z → e.1 = n := fun e he hq => by
        have := own_seen (m := n) he (hq ▸ hE.1)
        exact this.symm
      refine ⟨fine_snoc.mpr ⟨F, fun x hx => ⟨fun hq => ?_, seen x hx, fun hq => Int.le_of_lt (last x hx hq)⟩⟩, ?_⟩
      · have hq' : x.2 = k := hq
        have := last x hx (seen x hx (by rw [hq']))
        omega
      · rw [tp]
        intro r h0 h1
        -- a way in the longer log
        obtain ⟨w, hw⟩ : ∃ w, winO z es n (k / z) = some w := by
          cases hw : winO z es n (k / z) with
          | some w => exact ⟨w, rfl⟩
          | none => exact absurd hE (end_none hw)
        obtain ⟨a, b⟩ := (end_way P q0 g hn hw).mpr hE
        have hsn : SlW z es n (k / z) (max (pI z ns es (k / z)) w.1) := slW_iff.mp ⟨w, hw, by omega, a⟩
        have step : Way z ns (es ++ [(n, k)]) ((topB z es - k / z).toNat + 1) (k / z) (pI z ns es (k / z)) := by
          refine ⟨max (pI z ns es (k / z)) w.1, by omega, inW_iff.mpr ⟨n, hn, slW_snoc hsn (fun _ => rfl) (fun _ => by show ¬ k / z < k / z; omega)⟩, way_imp (fun r t h1 h2 hin => ?_) b⟩
          obtain ⟨m, hm, hs⟩ := inW_iff.mp hin
          obtain ⟨m1, m2⟩ := mem_but.mp hm
          refine inW_iff.mpr ⟨m, m1, slW_snoc hs (fun e => ?_) (fun e => absurd e.symm m2)⟩
          replace e : k / z = r := e
          omega
        have low : Way z ns (es ++ [(n, k)]) ((k / z).toNat + ((topB z es - k / z).toNat + 1)) 0 (pI z ns es 0) := by
          have hc : (0 : Int) + ((k / z).toNat : Int) = k / z := by omega
          refine way_low (Int.le_refl _) (fun r h1 h2 => ?_) (by rw [hc]; exact step) fun r h1 h2 => ?_
          · obtain ⟨m, hm, hs⟩ := inW_iff.mp (eI_in P h1 (by omega))
            refine inW_iff.mpr ⟨m, hm, slW_snoc hs (fun e => ?_) (fun _ => ?_)⟩
            · replace e : k / z = r := e
              omega
            · show ¬ k / z < r
              omega
          · have := (sFrom_in (z := z) (ns := ns) (es := es) (q := r) (s := pI z ns es r) (by rw [← eI_eq h1]; exact P r h1 (by omega))).1
            rw [eI_eq h1]
            exact this
        have p0 : pI z ns es 0 = 0 ∧ pI z ns (es ++ [(n, k)]) 0 = 0 := by
          unfold pI
          rw [if_pos (Int.le_refl _), if_pos (Int.le_refl _)]
          exact ⟨rfl, rfl⟩
        exact way_poss (Int.le_refl _) (by rw [p0.1, p0.2]; exact Int.le_refl _) low r h0 (by omega)
end
end NbAm

set_option Elab.async false
set_option linter.all false
set_option maxRecDepth 100000
set_option maxHeartbeats 4000000
/-! ranges of which the last one may have no end, as objects. -/
namespace NbAn
open PySem PySem.Spec PyProof.Rows L2 Nb NbE NbS NbF NbP NbK NbL NbX NbW NbZ NbM NbQ NbC NbG NbH NbI NbJ NbO NbA NbD NbN NbAa NbAb NbAg NbAi NbAj NbAk NbAm
def optV : Option Int → V
  | some t => .int t
  | none => .non
theorem scal_opt (o : Option Int) (i : Int) : scal (optV o) (.int i) = true := by cases o <;> rfl
theorem opt_int {o : Option Int} {i : Int} : optV o = .int i ↔ o = some i := by
  cases o with
  | none => exact ⟨(fun h => by cases h), (fun h => by cases h)⟩
  | some t =>
    show V.int t = V.int i ↔ _
    rw [V.int.injEq, Option.some.injEq]
def optD : Option Int → PyData
  | some t => .int t
  | none => .none
abbrev OR := Int × Option Int
def PrsO (H : Hp) : List Addr → List OR → Prop
  | [], [] => True
  | t :: ts, e :: es => H t = some (.tup [.int e.1, optV e.2]) ∧ PrsO H ts es
  | _, _ => False
theorem PrsO.imp {H H' : Hp} (k : ∀ t xs, H t = some (.tup xs) → H' t = some (.tup xs)) : ∀ {ts : List Addr} {es : List OR}, PrsO H ts es → PrsO H' ts es
  | [], [], _ => trivial
  | t :: ts, e :: es, h => ⟨k _ _ h.1, h.2.imp k⟩
  | [], _ :: _, h => h.elim
  | _ :: _, [], h => h.elim
theorem PrsO.app {H : Hp} {t : Addr} {e : OR} (ht : H t = some (.tup [.int e.1, optV e.2])) : ∀ {ts : List Addr} {es : List OR}, PrsO H ts es → PrsO H (ts ++ [t]) (es ++ [e])
  | [], [], _ => ⟨ht, trivial⟩
  | _ :: ts, _ :: es, h => ⟨h.1, PrsO.app ht h.2⟩
  | [], _ :: _, h => h.elim
  | _ :: _, [], h => h.elim
theorem PrsO.len {H : Hp} : ∀ {ts : List Addr} {es : List OR}, PrsO H ts es → ts.length = es.length
  | [], [], _ => rfl
  | _ :: ts, _ :: es, h => by rw [List.length_cons, List.length_cons, PrsO.len h.2]
  | [], _ :: _, h => h.elim
  | _ :: _, [], h => h.elim
theorem PrsO.get {H : Hp} : ∀ {ts : List Addr} {es : List OR} {i : Nat} {t : Addr}, PrsO H ts es → ts[i]? = some t → ∃ e, es[i]? = some e ∧ H t = some (.tup [.int e.1, optV e.2])
  | t :: ts, e :: es, 0, _, h, g => by
    simp at g
    subst g
    exact ⟨e, rfl, h.1⟩
  | t :: ts, e :: es, i + 1, _, h, g => by
    obtain ⟨e', a, b⟩ := PrsO.get (i := i) h.2 (by simpa using g)
    exact ⟨e', by simpa using a, b⟩
  | [], [], _, _, _, g => by simp at g
  | [], _ :: _, _, _, h, _ => h.elim
  | _ :: _, [], _, _, h, _ => h.elim
theorem prsO_init {H : Hp} : ∀ {ts : List Addr} {ps : List OR} {t : Addr} {p : OR}, PrsO H (ts ++ [t]) (ps ++ [p]) → PrsO H ts ps
  | [], [], _, _, _ => trivial
  | [], p0 :: r, t, p, h => by
    have hl := h.len
    simp at hl
  | t0 :: r, [], t, p, h => by
    have hl := h.len
    simp at hl
  | t0 :: ts, p0 :: ps, t, p, h => ⟨h.1, prsO_init h.2⟩
theorem prsO_keep {H H' : Hp} {ts : List Addr} {l : List OR} (h : PrsO H ts l) (e : Same H H') : PrsO H' ts l := h.imp fun t xs g => e _ _ g
def toO (l : List (Int × Int)) : List OR := l.map fun p => (p.1, some p.2)
theorem toO_len (l : List (Int × Int)) : (toO l).length = l.length := List.length_map ..
theorem prsO_to {H : Hp} : ∀ {ts : List Addr} {l : List (Int × Int)}, PrsO H ts (toO l) ↔ Prs H ts l
  | [], [] => Iff.rfl
  | t :: ts, p :: l => and_congr Iff.rfl (prsO_to (ts := ts) (l := l))
  | [], _ :: _ => Iff.rfl
  | _ :: _, [] => Iff.rfl
def joinO : List OR → List OR → List OR
  | acc, [] => acc
  | acc, p :: r => match acc.getLast? with
    | some l => if l.2 = some (p.1 - 1) then joinO (acc.dropLast ++ [(l.1, p.2)]) r else joinO (acc ++ [p]) r
    | none => joinO (acc ++ [p]) r
theorem joinO_touch {ai : List OR} {al p : OR} {r : List OR} (h : al.2 = some (p.1 - 1)) : joinO (ai ++ [al]) (p :: r) = joinO (ai ++ [(al.1, p.2)]) r := by
  conv => lhs; unfold joinO
  rw [List.getLast?_concat]
  simp only
  rw [if_pos h, List.dropLast_concat]
theorem joinO_far {ai : List OR} {al p : OR} {r : List OR} (h : ¬ al.2 = some (p.1 - 1)) : joinO (ai ++ [al]) (p :: r) = joinO (ai ++ [al] ++ [p]) r := by
  conv => lhs; unfold joinO
  rw [List.getLast?_concat]
  simp only
  rw [if_neg h]
theorem toO_app (a b : List (Int × Int)) : toO (a ++ b) = toO a ++ toO b := List.map_append
/-- the ranges and the one without an end -/
def finO (l : List (Int × Int)) (B : Int) : List OR := match l.getLast? with
  | some r => if r.2 = B - 1 then toO l.dropLast ++ [(r.1, none)] else toO l ++ [(B, none)]
  | none => [(B, none)]
theorem joinO_to : ∀ (prs acc : List (Int × Int)), joinO (toO acc) (toO prs) = toO (joinL acc prs)
  | [], acc => rfl
  | p :: r, acc => by
    show joinO (toO acc) ((p.1, some p.2) :: toO r) = _
    rcases List.eq_nil_or_concat acc with rfl | ⟨ai, al, rfl⟩
    · exact joinO_to r [p]
    · rw [List.concat_eq_append, toO_app, show toO [al] = [(al.1, some al.2)] from rfl]
      by_cases h : al.2 = p.1 - 1
      · rw [joinO_touch (by show some al.2 = some (p.1 - 1); rw [h]), joinL_touch h, ← joinO_to r, toO_app]
        rfl
      · rw [joinO_far (by show ¬ some al.2 = some (p.1 - 1); rw [Option.some.injEq]; exact h), joinL_far h, ← joinO_to r, toO_app, toO_app]
        rfl
theorem joinO_end (B : Int) : ∀ (prs acc : List (Int × Int)), joinO (toO acc) (toO prs ++ [(B, none)]) = finO (joinL acc prs) B
  | [], acc => by
    rw [show toO [] ++ [((B, none) : OR)] = [(B, none)] from rfl, show joinL acc [] = acc by unfold joinL; rfl]
    rcases List.eq_nil_or_concat acc with rfl | ⟨ai, al, rfl⟩
    · rfl
    · rw [List.concat_eq_append]
      unfold finO
      rw [List.getLast?_concat, toO_app, show toO [al] = [(al.1, some al.2)] from rfl]
      simp only
      by_cases h : al.2 = B - 1
      · rw [joinO_touch (by show some al.2 = some (B - 1); rw [h]), if_pos h, List.dropLast_concat]
        rfl
      · rw [joinO_far (by show ¬ some al.2 = some (B - 1); rw [Option.some.injEq]; exact h), if_neg h]
        rfl
  | p :: r, acc => by
    show joinO (toO acc) ((p.1, some p.2) :: (toO r ++ [(B, none)])) = _
    rcases List.eq_nil_or_concat acc with rfl | ⟨ai, al, rfl⟩
    · exact joinO_end B r [p]
    · rw [List.concat_eq_append, toO_app, show toO [al] = [(al.1, some al.2)] from rfl]
      by_cases h : al.2 = p.1 - 1
      · rw [joinO_touch (by show some al.2 = some (p.1 - 1); rw [h]), joinL_touch h, ← joinO_end B r, toO_app]
        rfl
      · rw [joinO_far (by show ¬ some al.2 = some (p.1 - 1); rw [Option.some.injEq]; exact h), joinL_far h, ← joinO_end B r, toO_app, toO_app]
        rfl
def orD (p : OR) : PyData := .tuple [.int p.1, optD p.2]
theorem prsO_dp {K : PySem.W.Frag} {H : Hp} : ∀ {ts : List Addr} {ps : List OR}, PrsO H ts ps → DpAll K H (ts.map V.ref) (ps.map orD)
  | [], [], _ => .nil
  | t :: ts, p :: ps, h => .cons (.tup (SqT.of h.1) (.cons (.int _) (.cons (by cases p.2 with
      | none => exact .non
      | some t => exact .int _) .nil))) (prsO_dp h.2)
  | [], _ :: _, h => h.elim
  | _ :: _, [], h => h.elim
end NbAn

set_option Elab.async false
set_option linter.all false
set_option maxRecDepth 100000
set_option maxHeartbeats 4000000
/-! the urn of the laws of live logs: a list that holds a list of digits and two numbers; what a draw leaves as it was. -/
namespace NbAo
open PySem PySem.Spec PyProof.Rows L2 Nb NbE NbS NbF NbP NbK NbL NbX NbW NbZ NbM NbQ NbC NbG NbH NbI NbJ NbO NbA NbD NbN NbAa NbAb NbAg NbAi NbAj NbAk NbAm NbAn
/-- an urn that k draws have been made of, at most -/
def UrnL (k : Nat) (H : Hp) (fa L : Addr) : Prop := ∃ (xs : List Int) (w c : Int), H fa = some (.lst [.ref L, .int w, .int c]) ∧ H L = some (.lst (xs.map V.int)) ∧ (∀ x ∈ xs, 0 ≤ x) ∧ xs.length ≤ 100 ∧ 0 ≤ w ∧ w ≤ 10 ^ 60 ∧ 0 ≤ c ∧ c ≤ (k : Int)
def Fu (H : Hp) (fa L : Addr) : Prop := ∃ (xs : List Int) (w c : Int), H fa = some (.lst [.ref L, .int w, .int c]) ∧ H L = some (.lst (xs.map V.int))
section
variable {fa L p b : Addr} {c c' k m : Nat} {H H1 H2 : Hp} {o : HO}
theorem UrnL.fd (h : UrnL k H fa L) : Fu H fa L := by
  obtain ⟨xs, w, c, h1, h2, _⟩ := h
  exact ⟨xs, w, c, h1, h2⟩
theorem UrnL.mono (h : UrnL k H fa L) (l : k ≤ m) : UrnL m H fa L := by
  obtain ⟨xs, w, c, h1, h2, h3, h4, h5, h6, h7, h8⟩ := h
  exact ⟨xs, w, c, h1, h2, h3, h4, h5, h6, h7, by omega⟩
theorem UrnL.same (h : UrnL k H fa L) (e : Same H H1) : UrnL k H1 fa L := by
  obtain ⟨xs, w, c, h1, h2, r⟩ := h
  exact ⟨xs, w, c, e _ _ h1, e _ _ h2, r⟩
theorem Fu.same (h : Fu H fa L) (e : Same H H1) : Fu H1 fa L := by
  obtain ⟨xs, w, c, h1, h2⟩ := h
  exact ⟨xs, w, c, e _ _ h1, e _ _ h2⟩
theorem Fu.ne (h : Fu H fa L) (hp : H p = none) : p ≠ fa ∧ p ≠ L := by
  obtain ⟨xs, w, c, h1, h2⟩ := h
  exact ⟨(ne_of_none h1 hp).symm, (ne_of_none h2 hp).symm⟩
theorem Fu.nfl (h : Fu H fa L) : L ≠ fa := by
  obtain ⟨xs, w, c, h1, h2⟩ := h
  rintro rfl
  rw [h1] at h2
  cases xs <;> simp at h2
/-- c draws at most, and nothing else of what was there is changed -/
structure StU (fa L : Addr) (c : Nat) (H H' : Hp) : Prop where
  kp : ∀ b o, b ≠ fa → b ≠ L → H b = some o → H' b = some o
  fd : Fu H' fa L
  jr : ∀ k, UrnL k H fa L → UrnL (k + c) H' fa L
theorem StU.of (e : Same H H1) (f : Fu H fa L) : StU fa L 0 H H1 := ⟨fun b o _ _ h => e b o h, f.same e, fun _ j => j.same e⟩
theorem StU.refl (f : Fu H fa L) : StU fa L 0 H H := .of (Same.refl _) f
theorem StU.trans (a : StU fa L c H H1) (b : StU fa L c' H1 H2) : StU fa L (c + c') H H2 := ⟨fun d o n1 n2 h => b.kp d o n1 n2 (a.kp d o n1 n2 h), b.fd, fun k j => by
  have := b.jr _ (a.jr k j)
  rwa [Nat.add_assoc] at this⟩
theorem StU.same (a : StU fa L c H H1) (b : Same H1 H2) : StU fa L c H H2 := ⟨fun d o n1 n2 h => b _ _ (a.kp d o n1 n2 h), a.fd.same b, fun k j => (a.jr k j).same b⟩
theorem StU.mono (a : StU fa L c H H1) (l : c ≤ c') : StU fa L c' H H1 := ⟨a.kp, a.fd, fun k j => (a.jr k j).mono (by omega)⟩
theorem StU.new (a : StU fa L c H H1) (h : H1 p = none) : StU fa L c H (upd H1 p o) := a.same (Same.new (Same.refl _) h)
theorem StU.free (a : StU fa L c H H1) (n1 : p ≠ fa) (n2 : p ≠ L) (h : H1 p = none) : H p = none := by
  cases q : H p with
  | none => rfl
  | some o =>
    rw [a.kp p o n1 n2 q] at h
    cases h
theorem StU.ne (a : StU fa L c H H1) (h : H1 p = none) : p ≠ fa ∧ p ≠ L := a.fd.ne h
theorem StU.free' (a : StU fa L c H H1) (h : H1 p = none) : H p = none := a.free (a.ne h).1 (a.ne h).2 h
theorem StU.mut (a : StU fa L c H H1) (h : H p = none) (n1 : p ≠ fa) (n2 : p ≠ L) : StU fa L c H (upd H1 p o) := ⟨fun d u m1 m2 q => by rw [upd_ne (ne_of_none q h)]; exact a.kp d u m1 m2 q, by
  obtain ⟨xs, w, c, h1, h2⟩ := a.fd
  exact ⟨xs, w, c, by rw [upd_ne n1.symm]; exact h1, by rw [upd_ne n2.symm]; exact h2⟩, fun k j => by
  obtain ⟨xs, w, c, h1, h2, r⟩ := a.jr k j
  exact ⟨xs, w, c, by rw [upd_ne n1.symm]; exact h1, by rw [upd_ne n2.symm]; exact h2, r⟩⟩
theorem UrnL.at (h : UrnL k H fa L) {xs : List Int} {w c : Int} (h1 : H fa = some (.lst [.ref L, .int w, .int c])) (h2 : H L = some (.lst (xs.map V.int))) : (∀ x ∈ xs, 0 ≤ x) ∧ xs.length ≤ 100 ∧ 0 ≤ w ∧ w ≤ 10 ^ 60 ∧ 0 ≤ c ∧ c ≤ (k : Int) := by
  obtain ⟨ys, w', c', g1, g2, r⟩ := h
  rw [h1] at g1
  rw [h2] at g2
  simp only [Option.some.injEq, HO.lst.injEq, List.cons.injEq, V.int.injEq, and_true, true_and] at g1
  obtain ⟨rfl, rfl⟩ := g1
  have : xs = ys := by
    have g3 : xs.map V.int = ys.map V.int := by simpa using g2
    exact (List.map_inj_right fun a b h => by injection h).mp g3
  subst this
  exact r
theorem StU.putL (a : StU fa L c H H1) {ys : List Int} (h0 : ∀ x ∈ ys, 0 ≤ x) (hl : ys.length ≤ 100) : StU fa L c H (upd H1 L (.lst (ys.map V.int))) := by
  have nfl := a.fd.nfl
  refine ⟨fun d o n1 n2 h => by rw [upd_ne n2]; exact a.kp d o n1 n2 h, ?_, fun k j => ?_⟩
  · obtain ⟨xs, w, c, h1, h2⟩ := a.fd
    exact ⟨ys, w, c, by rw [upd_ne nfl.symm]; exact h1, upd_same⟩
  · obtain ⟨xs, w, c, h1, h2, h3, h4, r⟩ := a.jr k j
    exact ⟨ys, w, c, by rw [upd_ne nfl.symm]; exact h1, upd_same, h0, hl, r⟩
theorem StU.putF (a : StU fa L c H H1) {w d : Int} (r : ∀ k, UrnL k H fa L → 0 ≤ w ∧ w ≤ 10 ^ 60 ∧ 0 ≤ d ∧ d ≤ ((k + c : Nat) : Int)) : StU fa L c H (upd H1 fa (.lst [.ref L, .int w, .int d])) := by
  have nfl := a.fd.nfl
  refine ⟨fun d o n1 n2 h => by rw [upd_ne n1]; exact a.kp d o n1 n2 h, ?_, fun k j => ?_⟩
  · obtain ⟨xs, w', c, h1, h2⟩ := a.fd
    exact ⟨xs, w, d, upd_same, by rw [upd_ne nfl]; exact h2⟩
  · obtain ⟨xs, w', c, h1, h2, h3, h4, _⟩ := a.jr k j
    exact ⟨xs, w, d, upd_same, by rw [upd_ne nfl]; exact h2, h3, h4, r k j⟩
/-- the heap without the urn: facts on other things are kept there, draws leave it as it is -/
def cutU (fa L : Addr) (H : Hp) : Hp := fun b => if b = fa ∨ b = L then none else H b
theorem cut_some (h : cutU fa L H b = some o) : b ≠ fa ∧ b ≠ L ∧ H b = some o := by
  unfold cutU at h
  split at h
  · cases h
  · rename_i g
    exact ⟨fun q => g (.inl q), fun q => g (.inr q), h⟩
theorem cut_at (n1 : b ≠ fa) (n2 : b ≠ L) : cutU fa L H b = H b := by
  unfold cutU
  rw [if_neg (by rintro (q | q); exact n1 q; exact n2 q)]
theorem cut_le : Same (cutU fa L H) H := fun b o h => (cut_some h).2.2
theorem cut_none (f : Fu H fa L) (h : H b = none) : cutU fa L H b = none := by
  rw [cut_at (f.ne h).1 (f.ne h).2]
  exact h
theorem StU.cut (a : StU fa L c H H1) : Same (cutU fa L H) (cutU fa L H1) := fun b o h => by
  obtain ⟨n1, n2, g⟩ := cut_some h
  rw [cut_at n1 n2]
  exact a.kp b o n1 n2 g
theorem Same.cutU (e : Same H H1) : Same (NbAo.cutU fa L H) (NbAo.cutU fa L H1) := fun b o h => by
  obtain ⟨n1, n2, g⟩ := cut_some h
  rw [cut_at n1 n2]
  exact e b o g
end
/-! names of letters -/
def lowL (z : Str) : Prop := ∀ c ∈ z.cps.toList, 97 ≤ c ∧ c ≤ 122
theorem low_char : ∀ c : Nat, c < 123 → 97 ≤ c → (decide (c < 128) = true ∧ Unicode.isAlpha c = true ∧ Unicode.isLower c = true ∧ (Unicode.isUpper c || Unicode.isTitle c) = false) := by decide +kernel
theorem low_ok {z : Str} (h : lowL z) (h0 : 0 < z.length) (h8 : z.length ≤ 8) : nameOk z = true := by
  have hc : ∀ c ∈ z.cps.toList, (decide (c < 128) = true ∧ Unicode.isAlpha c = true ∧ Unicode.isLower c = true ∧ (Unicode.isUpper c || Unicode.isTitle c) = false) := fun c hc => low_char c (by have := (h c hc).2; omega) (h c hc).1
  have hl : 0 < z.cps.toList.length := by
    rw [Array.length_toList]
    exact h0
  obtain ⟨c0, hc0⟩ : ∃ c, c ∈ z.cps.toList := ⟨_, List.getElem_mem hl⟩
  have a1 : Txt.isascii z = true := by
    unfold Txt.isascii
    rw [← Array.all_toList]
    exact List.all_eq_true.mpr fun c q => (hc c q).1
  have a2 : Txt.isalpha z = true := by
    unfold Txt.isalpha
    rw [← Array.all_toList, Bool.and_eq_true]
    exact ⟨decide_eq_true h0, List.all_eq_true.mpr fun c q => (hc c q).2.1⟩
  have a3 : Txt.islower z = true := by
    unfold Txt.islower
    rw [← Array.any_toList, ← Array.any_toList, Bool.and_eq_true]
    refine ⟨List.any_eq_true.mpr ⟨c0, hc0, (hc c0 hc0).2.2.1⟩, ?_⟩
    rw [Bool.not_eq_true', List.any_eq_false]
    intro c q
    rw [(hc c q).2.2.2]
    decide
  unfold nameOk
  rw [a1, a2, a3, decide_eq_true h8]
  rfl
theorem az_at : ∀ i : Nat, i < 26 → (Str.ofString "abcdefghijklmnopqrstuvwxyz").cps.toList[i]? = some (97 + i) := by decide +kernel
theorem al_at : ∀ i : Nat, i < 12 → (Str.ofString "abcdefghijkl").cps.toList[i]? = some (97 + i) := by decide +kernel
theorem low_nil : lowL (Str.ofString "") := by
  intro c hc
  have : (Str.ofString "").cps.toList = [] := by decide +kernel
  rw [this] at hc
  cases hc
theorem cps_app (a b : Str) : (a ++ b).cps.toList = a.cps.toList ++ b.cps.toList := Array.toList_append ..
theorem lowc_app {a : Str} (h : lowL a) {c : Nat} (h1 : 97 ≤ c) (h2 : c ≤ 122) : lowL (a ++ ⟨#[c]⟩) := by
  intro d hd
  rw [cps_app, List.mem_append] at hd
  rcases hd with hd | hd
  · exact h d hd
  · rw [show (⟨#[c]⟩ : Str).cps.toList = [c] from rfl, List.mem_singleton] at hd
    subst hd
    exact ⟨h1, h2⟩
theorem len_app1 (a : Str) (c : Nat) : (a ++ (⟨#[c]⟩ : Str)).length = a.length + 1 := by
  show (a ++ (⟨#[c]⟩ : Str)).cps.size = a.cps.size + 1
  rw [← Array.length_toList, cps_app, List.length_append, Array.length_toList]
  rfl
theorem last_app1 (a : Str) (c : Nat) : (a ++ (⟨#[c]⟩ : Str)).cps.toList.getLast? = some c := by
  rw [cps_app]
  exact List.getLast?_concat
/-- names with different last letters -/
def NmL (ns : List Str) : Prop := ∀ (j : Nat) n, ns[j]? = some n → lowL n ∧ 0 < n.length ∧ n.length ≤ 8 ∧ n.cps.toList.getLast? = some (97 + j)
theorem NmL.app {ns : List Str} (h : NmL ns) {a : Str} (ha : lowL a) (hl : a.length ≤ 7) (h12 : ns.length < 12) : NmL (ns ++ [a ++ ⟨#[97 + ns.length]⟩]) := fun j n hj => by
  by_cases g : j < ns.length
  · rw [List.getElem?_append_left g] at hj
    exact h j n hj
  · have hjl := (List.getElem?_eq_some_iff.mp hj).1
    rw [List.length_append, List.length_singleton] at hjl
    have hje : j = ns.length := by omega
    subst hje
    rw [List.getElem?_append_right (Nat.le_refl _), Nat.sub_self] at hj
    cases hj
    refine ⟨lowc_app ha (by omega) (by omega), ?_, ?_, last_app1 _ _⟩
    · rw [len_app1]
      omega
    · rw [len_app1]
      omega
theorem NmL.crew {ns : List Str} (h : NmL ns) (h1 : 1 ≤ ns.length) (h2 : ns.length ≤ 12) : Crew ns := by
  refine ⟨⟨h1, h2⟩, List.pairwise_iff_getElem.mpr fun i j hi hj hij he => ?_, fun n hn => ?_⟩
  · obtain ⟨_, _, _, g1⟩ := h _ _ (List.getElem?_eq_getElem hi)
    obtain ⟨_, _, _, g2⟩ := h _ _ (List.getElem?_eq_getElem hj)
    rw [he, g2, Option.some.injEq] at g1
    omega
  · obtain ⟨j, hj⟩ := List.mem_iff_getElem?.mp hn
    obtain ⟨a, b, c, _⟩ := h j n hj
    exact low_ok a b c
section
variable {fa L p b t : Addr} {c c' k m i : Nat} {H H1 H2 : Hp}
theorem fu_tup {xs : List V} (f : Fu H fa L) (h : H t = some (.tup xs)) : t ≠ fa ∧ t ≠ L := by
  obtain ⟨ys, w, d, h1, h2⟩ := f
  constructor
  · rintro rfl
    rw [h] at h1
    cases h1
  · rintro rfl
    rw [h] at h2
    cases h2
theorem fu_dk {kvs : List (Key × V)} (f : Fu H fa L) (h : H t = some (.dK kvs)) : t ≠ fa ∧ t ≠ L := by
  obtain ⟨ys, w, d, h1, h2⟩ := f
  constructor
  · rintro rfl
    rw [h] at h1
    cases h1
  · rintro rfl
    rw [h] at h2
    cases h2
theorem fu_strs {ns : List Str} (f : Fu H fa L) (h0 : 1 ≤ ns.length) (h : CrewAt H t ns) : t ≠ fa ∧ t ≠ L := by
  obtain ⟨ys, w, d, h1, h2⟩ := f
  obtain ⟨n, r, rfl⟩ : ∃ n r, ns = n :: r := by
    cases ns with
    | nil => simp at h0
    | cons n r => exact ⟨n, r, rfl⟩
  replace h : H t = some (.lst ((n :: r).map V.str)) := h
  constructor
  · rintro rfl
    rw [h] at h1
    simp at h1
  · rintro rfl
    rw [h] at h2
    cases ys <;> simp at h2
theorem StU.kt {xs : List V} (e : StU fa L c H H1) (f : Fu H fa L) (h : H t = some (.tup xs)) : H1 t = some (.tup xs) := e.kp _ _ (fu_tup f h).1 (fu_tup f h).2 h
theorem StU.crew {ns : List Str} (e : StU fa L c H H1) (f : Fu H fa L) (h0 : 1 ≤ ns.length) (h : CrewAt H t ns) : CrewAt H1 t ns := e.kp _ _ (fu_strs f h0 h).1 (fu_strs f h0 h).2 h
theorem StU.ents {es : List En} (e : StU fa L c H H1) (f : Fu H fa L) (n1 : t ≠ fa) (n2 : t ≠ L) (h : EntsAt H t es) : EntsAt H1 t es := by
  obtain ⟨ts, a, q⟩ := h
  exact ⟨ts, e.kp _ _ n1 n2 a, q.imp fun t xs g => e.kt f g⟩
/-- the objects of a drawn course -/
structure CoX (H H' : Hp) (fa L dh fo : Addr) (c : Nat) (held : Str → Option (Int × Int)) (es : List En) (i : Nat) : Prop where
  st : StU fa L c H H'
  hd : HeldX H' dh held i
  s : EntsAt H' fo es
  fd : H dh = none
  ff : H fo = none
  d1 : dh ≠ fa
  d2 : dh ≠ L
  f1 : fo ≠ fa
  f2 : fo ≠ L
variable {dh fo : Addr} {held : Str → Option (Int × Int)} {es : List En}
theorem CoX.step (X : CoX H H1 fa L dh fo c held es i) (e : StU fa L c' H1 H2) : CoX H H2 fa L dh fo (c + c') held es i :=
  ⟨X.st.trans e, X.hd.imp (fun _ h => e.kp _ _ X.d1 X.d2 h) (fun _ _ h => e.kt X.st.fd h) (Nat.le_refl _), e.ents X.st.fd X.f1 X.f2 X.s, X.fd, X.ff, X.d1, X.d2, X.f1, X.f2⟩
theorem CoX.same (X : CoX H H1 fa L dh fo c held es i) (e : Same H1 H2) : CoX H H2 fa L dh fo c held es i :=
  ⟨X.st.same e, X.hd.imp (fun _ h => e _ _ h) (fun _ _ h => e _ _ h) (Nat.le_refl _), X.s.same e, X.fd, X.ff, X.d1, X.d2, X.f1, X.f2⟩
theorem CoX.mono (X : CoX H H1 fa L dh fo c held es i) (l : c ≤ c') (l2 : i ≤ m) : CoX H H1 fa L dh fo c' held es m :=
  ⟨X.st.mono l, X.hd.imp (fun _ h => h) (fun _ _ h => h) l2, X.s, X.fd, X.ff, X.d1, X.d2, X.f1, X.f2⟩
theorem CoX.put (X : CoX H H1 fa L dh fo c held es i) {kvs : List (Key × V)} {n : Str} {x y : Int} (h : H1 dh = some (.dK kvs)) (ht : H1 t = some (.tup [.int x, .int y])) : CoX H (upd H1 dh (.dK (putK kvs (.inr n) (.ref t)))) fa L dh fo c (putH held n (x, y)) es (i + 1) := by
  obtain ⟨ts, a, q⟩ := X.s
  refine ⟨X.st.mut X.fd X.d1 X.d2, heldX_put X.hd h ht, ⟨ts, upd_keep a ?_, q.imp fun t xs g => upd_keep g ?_⟩, X.fd, X.ff, X.d1, X.d2, X.f1, X.f2⟩
  · rintro rfl
    rw [a] at h
    cases h
  · rintro rfl
    rw [g] at h
    cases h
theorem CoX.app (X : CoX H H1 fa L dh fo c held es i) {xs : List V} (hx : H1 fo = some (.lst xs)) {e : En} (hp : H1 p = some (.tup [.str e.1, .int e.2])) : CoX H (upd H1 fo (.lst (xs ++ [.ref p]))) fa L dh fo c held (es ++ [e]) i := by
  obtain ⟨ts, a, q⟩ := X.s
  rw [hx] at a
  cases a
  have kt : ∀ t ys, H1 t = some (.tup ys) → upd H1 fo (.lst (ts.map V.ref ++ [.ref p])) t = some (.tup ys) := fun t ys g => upd_keep g (ne_of g hx (by simp))
  refine ⟨X.st.mut X.ff X.f1 X.f2, X.hd.imp (fun kvs h => upd_keep h ?_) kt (Nat.le_refl _), ⟨ts ++ [p], by rw [upd_same, List.map_append]; rfl, Ents.app (kt _ _ hp) (q.imp kt)⟩, X.fd, X.ff, X.d1, X.d2, X.f1, X.f2⟩
  rintro rfl
  rw [hx] at h
  cases h
end
end NbAo

set_option Elab.async false
set_option linter.all false
set_option maxRecDepth 100000
set_option maxHeartbeats 4000000
/-! live logs: their classes, what one holds, what its methods promise. -/
namespace NbAp
open PySem PySem.Spec PyProof.Rows L2 Nb NbE NbS NbF NbP NbK NbL NbX NbW NbZ NbM NbQ NbC NbG NbH NbI NbJ NbO NbA NbD NbN NbAa NbAb NbAg NbAi NbAj NbAk NbAm NbAn NbAo
abbrev VL (K : PySem.W.Frag) : Addr := He.ga K "LiveLog"
abbrev VO (K : PySem.W.Frag) : Addr := He.ga K "LiveLosingLog"
/-- the two classes: losing or not -/
def C3 (K : PySem.W.Frag) : Two := fun b => if b then VO K else VL K
/-- what the classes must be -/
structure VF (K : PySem.W.Frag) : Prop where
  cl : ∀ b, Cls K (C3 K b)
  nS : ∀ b, NoAttr K (C3 K b) "_size"
  nV : ∀ b, NoAttr K (C3 K b) "_servers"
  nE : ∀ b, NoAttr K (C3 K b) "_entries"
  nM : ∀ b, NoAttr K (C3 K b) "_marks"
  con : ∀ b, ∃ u, Con K (C3 K b) "KIND" (.str (kindS b)) u
  rd : ∀ b, ClX.CRead K (C3 K b) (.type "type")
  cv : ∀ b, ∃ u, ClX.CVal K (C3 K b) (.type "type") "KIND" (.str (kindS b)) u
def fsV (z : Int) (ls le lm : Addr) : List (Str × V) := [("_size", .int z), ("_servers", .ref ls), ("_entries", .ref le), ("_marks", .ref lm)]
theorem fsV_put (z : Int) (ls le lm : Addr) : putF "_marks" (.ref lm) (putF "_entries" (.ref le) (putF "_servers" (.ref ls) (putF "_size" (.int z) []))) = fsV z ls le lm := by
  rw [fsL_put]
  have h1 : ¬ (("_size" : Str) = "_marks") := by decide +kernel
  have h2 : ¬ (("_servers" : Str) = "_marks") := by decide +kernel
  have h3 : ¬ (("_entries" : Str) = "_marks") := by decide +kernel
  simp only [putF, fsL, if_neg h1, if_neg h2, if_neg h3]
  rfl
theorem fsV_marks' (z : Int) (ls le lm lm' : Addr) : putF "_marks" (.ref lm') (fsV z ls le lm) = fsV z ls le lm' := by
  have h1 : ¬ (("_size" : Str) = "_marks") := by decide +kernel
  have h2 : ¬ (("_servers" : Str) = "_marks") := by decide +kernel
  have h3 : ¬ (("_entries" : Str) = "_marks") := by decide +kernel
  have h4 : ("_marks" : Str) = "_marks" := rfl
  simp only [putF, fsV, if_neg h1, if_neg h2, if_neg h3, if_pos h4, if_true]
theorem fsV_entries' (z : Int) (ls le lm le' : Addr) : putF "_entries" (.ref le') (fsV z ls le lm) = fsV z ls le' lm := by
  have h1 : ¬ (("_size" : Str) = "_entries") := by decide +kernel
  have h2 : ¬ (("_servers" : Str) = "_entries") := by decide +kernel
  have h4 : ("_entries" : Str) = "_entries" := rfl
  simp only [putF, fsV, if_neg h1, if_neg h2, if_pos h4, if_true]
theorem fsV_size (z : Int) (ls le lm : Addr) : (fsV z ls le lm).lookup ("_size" : Str) = some (.int z) := by
  unfold fsV
  rw [List.lookup_cons, show (("_size" : Str) == ("_size" : Str)) = true by decide +kernel]
theorem fsV_servers (z : Int) (ls le lm : Addr) : (fsV z ls le lm).lookup ("_servers" : Str) = some (.ref ls) := by
  unfold fsV
  rw [List.lookup_cons, show (("_servers" : Str) == ("_size" : Str)) = false by decide +kernel, List.lookup_cons, show (("_servers" : Str) == ("_servers" : Str)) = true by decide +kernel]
theorem fsV_entries (z : Int) (ls le lm : Addr) : (fsV z ls le lm).lookup ("_entries" : Str) = some (.ref le) := by
  unfold fsV
  rw [List.lookup_cons, show (("_entries" : Str) == ("_size" : Str)) = false by decide +kernel, List.lookup_cons, show (("_entries" : Str) == ("_servers" : Str)) = false by decide +kernel, List.lookup_cons,
    show (("_entries" : Str) == ("_entries" : Str)) = true by decide +kernel]
theorem fsV_marks (z : Int) (ls le lm : Addr) : (fsV z ls le lm).lookup ("_marks" : Str) = some (.ref lm) := by
  unfold fsV
  rw [List.lookup_cons, show (("_marks" : Str) == ("_size" : Str)) = false by decide +kernel, List.lookup_cons, show (("_marks" : Str) == ("_servers" : Str)) = false by decide +kernel, List.lookup_cons,
    show (("_marks" : Str) == ("_entries" : Str)) = false by decide +kernel, List.lookup_cons, show (("_marks" : Str) == ("_marks" : Str)) = true by decide +kernel]
theorem fsV_no {m : Str} (h1 : (m == ("_size" : Str)) = false) (h2 : (m == ("_servers" : Str)) = false) (h3 : (m == ("_entries" : Str)) = false) (h4 : (m == ("_marks" : Str)) = false) (z : Int) (ls le lm : Addr) : (fsV z ls le lm).lookup m = none := by
  unfold fsV
  rw [List.lookup_cons, h1, List.lookup_cons, h2, List.lookup_cons, h3, List.lookup_cons, h4]
  rfl
/-- a live log at p, its own lists at ls, le, lm -/
structure LiveX (K : PySem.W.Frag) (H : Hp) (p : Addr) (b : Bool) (z : Int) (ns : List Str) (es : List En) (ms : List Int) (ls le lm : Addr) : Prop where
  ob : ∃ dx, H p = some (.ins (C3 K b) dx (fsV z ls le lm))
  cr : CrewAt H ls ns
  en : EntsAt H le es
  ml : H lm = some (.lst (ms.map V.int))
  wf : WF z ns es
  nem : le ≠ lm
  nes : le ≠ ls
  nms : lm ≠ ls
theorem LiveX.same {K : PySem.W.Frag} {H H' : Hp} {p : Addr} {b : Bool} {z : Int} {ns : List Str} {es : List En} {ms : List Int} {ls le lm : Addr} (h : LiveX K H p b z ns es ms ls le lm) (e : Same H H') : LiveX K H' p b z ns es ms ls le lm := by
  obtain ⟨⟨dx, h1⟩, h2, h3, h4, h5, h6, h7, h8⟩ := h
  exact ⟨⟨dx, e _ _ h1⟩, h2.same e, h3.same e, e _ _ h4, h5, h6, h7, h8⟩
/-- all but some addresses is as it was -/
def Kp (A : List Addr) (H H' : Hp) : Prop := ∀ a o, a ∉ A → H a = some o → H' a = some o
theorem Kp.refl {A : List Addr} {H : Hp} : Kp A H H := fun _ _ _ h => h
theorem Kp.trans {A : List Addr} {H H1 H2 : Hp} (a : Kp A H H1) (b : Kp A H1 H2) : Kp A H H2 := fun d o n h => b d o n (a d o n h)
theorem Kp.of {A : List Addr} {H H' : Hp} (e : Same H H') : Kp A H H' := fun d o _ h => e d o h
theorem Kp.put {A : List Addr} {H H' : Hp} {p : Addr} {o : HO} (a : Kp A H H') (hp : p ∈ A) : Kp A H (upd H' p o) := fun d u n h => upd_keep (a d u n h) fun q => n (q ▸ hp)
theorem Kp.more {A B : List Addr} {H H' : Hp} (a : Kp A H H') (s : ∀ x ∈ A, x ∈ B) : Kp B H H' := fun d u n h => a d u (fun q => n (s d q)) h
/-- the addresses of lists without texts -/
def Plain (A : List Addr) (H : Hp) : Prop := ∀ a ∈ A, ∃ xs : List V, H a = some (.lst xs) ∧ ∀ x ∈ xs, ∀ z : Str, x ≠ .str z
/-- a log none of whose parts is among some addresses -/
def LogO (A : List Addr) (K : PySem.W.Frag) (H : Hp) (p : Addr) (b : Bool) (z : Int) (ns : List Str) (es : List En) : Prop := ∃ ls le, LogX K H p b z ns es ls le ∧ le ∉ A
theorem LogO.log {A : List Addr} {K : PySem.W.Frag} {H : Hp} {p : Addr} {b : Bool} {z : Int} {ns : List Str} {es : List En} (h : LogO A K H p b z ns es) : LogAt K H p b z ns es := by
  obtain ⟨ls, le, h, _⟩ := h
  exact h.log
theorem LogO.kp {A : List Addr} {K : PySem.W.Frag} {H H' : Hp} {p : Addr} {b : Bool} {z : Int} {ns : List Str} {es : List En} (h : LogO A K H p b z ns es) (f : Plain A H) (e : Kp A H H') : LogO A K H' p b z ns es := by
  obtain ⟨ls, le, ⟨dx, h1, h2, ⟨ts, h3, h4⟩, h5⟩, n⟩ := h
  refine ⟨ls, le, ⟨dx, e _ _ (fun q => ?_) h1, e _ _ (fun q => ?_) h2, ⟨ts, e _ _ n h3, h4.imp fun t xs g => e _ _ (fun q => ?_) g⟩, h5⟩, n⟩
  · obtain ⟨xs, g, _⟩ := f _ q
    rw [h1] at g
    cases g
  · obtain ⟨xs, g, g2⟩ := f _ q
    replace h2 : H ls = some (.lst (ns.map V.str)) := h2
    rw [h2] at g
    cases g
    have h0 := h5.cr.few.1
    cases ns with
    | nil => simp at h0
    | cons n r => exact g2 (.str n) (by simp) n rfl
  · obtain ⟨xs', g', _⟩ := f _ q
    rw [g] at g'
    cases g'
theorem plain_nil {H : Hp} : Plain [] H := fun a h => by simp at h
theorem plain_cons {A : List Addr} {H : Hp} {a : Addr} (h : ∃ xs : List V, H a = some (.lst xs) ∧ ∀ x ∈ xs, ∀ z : Str, x ≠ .str z) (k : Plain A H) : Plain (a :: A) H := fun b hb => by
  rcases List.mem_cons.mp hb with rfl | hb
  · exact h
  · exact k b hb
theorem plain_refs {H : Hp} {a : Addr} {ts : List Addr} (h : H a = some (.lst (ts.map V.ref))) : ∃ xs : List V, H a = some (.lst xs) ∧ ∀ x ∈ xs, ∀ z : Str, x ≠ .str z := ⟨_, h, fun x hx z => by
  obtain ⟨t, _, rfl⟩ := List.mem_map.mp hx
  intro q
  cases q⟩
theorem plain_ints {H : Hp} {a : Addr} {ts : List Int} (h : H a = some (.lst (ts.map V.int))) : ∃ xs : List V, H a = some (.lst xs) ∧ ∀ x ∈ xs, ∀ z : Str, x ≠ .str z := ⟨_, h, fun x hx z => by
  obtain ⟨t, _, rfl⟩ := List.mem_map.mp hx
  intro q
  cases q⟩
theorem plain_ents {H : Hp} {a : Addr} {es : List En} (h : EntsAt H a es) : ∃ xs : List V, H a = some (.lst xs) ∧ ∀ x ∈ xs, ∀ z : Str, x ≠ .str z := by
  obtain ⟨ts, g, _⟩ := h
  exact plain_refs g
theorem plain_urn {A : List Addr} {H : Hp} {fa L : Addr} (f : Fu H fa L) (k : Plain A H) : Plain (fa :: L :: A) H := by
  obtain ⟨xs, w, d, h1, h2⟩ := f
  refine plain_cons ⟨_, h1, fun x hx z q => ?_⟩ (plain_cons (plain_ints h2) k)
  subst q
  simp at hx
theorem stu_kp {fa L : Addr} {c : Nat} {H H' : Hp} (e : StU fa L c H H') : Kp [fa, L] H H' := fun a o n h => e.kp a o (fun q => n (by simp [q])) (fun q => n (by simp [q])) h
theorem LiveX.kp {A : List Addr} {K : PySem.W.Frag} {H H' : Hp} {p : Addr} {b : Bool} {z : Int} {ns : List Str} {es : List En} {ms : List Int} {ls le lm : Addr} (h : LiveX K H p b z ns es ms ls le lm) (f : Plain A H) (e : Kp A H H') (q1 : le ∉ A) (q2 : lm ∉ A) : LiveX K H' p b z ns es ms ls le lm := by
  obtain ⟨⟨dx, h1⟩, h2, ⟨ts, h3, h4⟩, h5, h6, h7, h8, h9⟩ := h
  refine ⟨⟨dx, e _ _ (fun q => ?_) h1⟩, e _ _ (fun q => ?_) h2, ⟨ts, e _ _ q1 h3, h4.imp fun t xs g => e _ _ (fun q => ?_) g⟩, e _ _ q2 h5, h6, h7, h8, h9⟩
  · obtain ⟨xs, g, _⟩ := f _ q
    rw [h1] at g
    cases g
  · obtain ⟨xs, g, g2⟩ := f _ q
    replace h2 : H ls = some (.lst (ns.map V.str)) := h2
    rw [h2] at g
    cases g
    have h0 := h6.cr.few.1
    cases ns with
    | nil => simp at h0
    | cons n r => exact g2 (.str n) (by simp) n rfl
  · obtain ⟨xs', g', _⟩ := f _ q
    rw [g] at g'
    cases g'
def sp_LiveLog_init (K : PySem.W.Frag) : Sp := fun vs H Q _ => ∃ (p dx : Addr) (b : Bool) (z : Int) (c : Addr) (ns : List Str), vs = [.ref p, .int z, .ref c] ∧ H p = some (.ins (C3 K b) dx []) ∧ SizeOk z ∧ CrewAt H c ns ∧ Crew ns ∧
  ∀ H' ls le lm, (∀ a o, a ≠ p → H a = some o → H' a = some o) → LiveX K H' p b z ns [] [] ls le lm → H ls = none → H le = none → H lm = none → Q .non H'
def sp_LiveLog_len (K : PySem.W.Frag) : Sp := fun vs H Q _ => ∃ p b z ns es ms ls le lm, vs = [.ref p] ∧ LiveX K H p b z ns es ms ls le lm ∧ Q (.int (es.length : Int)) H
/-- an entry more, which can follow -/
def sp_LiveLog_see (K : PySem.W.Frag) : Sp := fun vs H Q _ => ∃ (p : Addr) (b : Bool) (z : Int) (ns : List Str) (es : List En) (ms : List Int) (ls le lm : Addr) (n : Str) (k : Int), vs = [.ref p, .str n, .int k] ∧ LiveX K H p b z ns es ms ls le lm ∧ n ∈ ns ∧ 0 ≤ k ∧ es.length < 200 ∧ obsD z ns (es ++ [(n, k)]) = .none ∧
  ∀ H', (∀ a o, a ≠ le → H a = some o → H' a = some o) → LiveX K H' p b z ns (es ++ [(n, k)]) ms ls le lm → Q .non H'
/-- a log made anew, its entries in a list of their own -/
def NewLogE (K : PySem.W.Frag) (H : Hp) (Q : VK) (b : Bool) (z : Int) (ns : List Str) (es : List En) : Prop := ∀ p H' ls le, H p = none → Same H H' → LogX K H' p b z ns es ls le → H le = none → Q (.ref p) H'
def sp_LiveLog_now (K : PySem.W.Frag) : Sp := fun vs H Q _ => ∃ p b z ns es ms ls le lm, vs = [.ref p] ∧ LiveX K H p b z ns es ms ls le lm ∧ NewLogE K H Q b z ns es
def sp_LiveLog_mark (K : PySem.W.Frag) : Sp := fun vs H Q _ => ∃ p b z ns es ms ls le lm, vs = [.ref p] ∧ LiveX K H p b z ns es ms ls le lm ∧ ms.length ≤ 1000 ∧
  ∀ H', (∀ a o, a ≠ lm → H a = some o → H' a = some o) → LiveX K H' p b z ns es (ms ++ [(es.length : Int)]) ls le lm → Q (.int (ms.length : Int)) H'
def sp_LiveLog_undo (K : PySem.W.Frag) : Sp := fun vs H Q _ => ∃ (p : Addr) (b : Bool) (z : Int) (ns : List Str) (es : List En) (e : En) (ms : List Int) (ls le lm : Addr), vs = [.ref p] ∧ LiveX K H p b z ns (es ++ [e]) ms ls le lm ∧ ms.length ≤ 1000 ∧
  ∀ H' lm', (∀ a o, a ≠ le → a ≠ p → H a = some o → H' a = some o) → LiveX K H' p b z ns es (ms.filter fun m => decide (m ≤ (es.length : Int))) ls le lm' → H lm' = none → Q .non H'
def sp_log_of_any_length (K : PySem.W.Frag) : Sp := fun vs H Q _ => ∃ (b : Bool) (z : Int) (c s : Addr) (ns : List Str) (es : List En), vs = [.str (kindS b), .int z, .ref c, .ref s] ∧ WF z ns es ∧ CrewAt H c ns ∧ EntsAt H s es ∧ NewLogE K H Q b z ns es
theorem fsL_entries' (z : Int) (ls le le' : Addr) : putF "_entries" (.ref le') (fsL z ls le) = fsL z ls le' := by
  have h1 : ¬ (("_size" : Str) = "_entries") := by decide +kernel
  have h2 : ¬ (("_servers" : Str) = "_entries") := by decide +kernel
  have h4 : ("_entries" : Str) = "_entries" := rfl
  simp only [putF, fsL, if_neg h1, if_neg h2, if_pos h4, if_true]
end NbAp

set_option Elab.async false
set_option linter.all false
set_option maxRecDepth 100000
set_option maxHeartbeats 4000000
/-! live logs: the classes' facts as truth values; logs kept while one live log changes. -/
namespace NbAq
open PySem PySem.Spec PyProof.Rows L2 Nb NbE NbS NbF NbP NbK NbL NbX NbW NbZ NbM NbQ NbC NbG NbH NbI NbJ NbO NbA NbD NbN NbAa NbAb NbAg NbAi NbAj NbAk NbAm NbAn NbAo NbAp
theorem vf_of {K : PySem.W.Frag} (h : (vfL K).all id = true) : VF K where
  cl := two_cases (He.cls_ok (all_at h 0)) (He.cls_ok (all_at h 8))
  nS := two_cases (He.noat_ok (all_at h 1)) (He.noat_ok (all_at h 9))
  nV := two_cases (He.noat_ok (all_at h 2)) (He.noat_ok (all_at h 10))
  nE := two_cases (He.noat_ok (all_at h 3)) (He.noat_ok (all_at h 11))
  nM := two_cases (He.noat_ok (all_at h 4)) (He.noat_ok (all_at h 12))
  con := two_cases (conT_ok (all_at h 5) (by decide +kernel)) (conT_ok (all_at h 13) (by decide +kernel))
  rd := two_cases (cread_at (all_at h 6)) (cread_at (all_at h 14))
  cv := two_cases (cvT_ok (all_at h 7)) (cvT_ok (all_at h 15))
theorem met3_of {K : PySem.W.Frag} {m : Str} (F : VF K) (h0 : Meth K (VL K) m (He.ma K (VL K) m)) (h1 : Meth K (VO K) m (He.ma K (VO K) m)) (e : He.ma K (VO K) m = He.ma K (VL K) m) : Met2 K (C3 K) m (He.ma K (VL K) m) :=
  ⟨F.cl, two_cases h0 (e ▸ h1)⟩
/-- a live log's object -/
def LiveOb (H : Hp) (m : Addr) : Prop := ∃ c dx z ls le lm, H m = some (.ins c dx (fsV z ls le lm))
theorem _root_.NbAp.LogO.kp2 {A : List Addr} {m : Addr} {K : PySem.W.Frag} {H H' : Hp} {p : Addr} {b : Bool} {z : Int} {ns : List Str} {es : List En} (h : LogO A K H p b z ns es) (f : Plain A H) (g : LiveOb H m) (e : Kp (m :: A) H H') : LogO A K H' p b z ns es := by
  obtain ⟨ls, le, ⟨dx, h1, h2, ⟨ts, h3, h4⟩, h5⟩, n⟩ := h
  obtain ⟨c, dx2, z2, ls2, le2, lm2, g0⟩ := g
  have nt : ∀ {a : Addr} {o : HO}, H a = some o → (∀ xs, o = .lst xs → ∃ z : Str, V.str z ∈ xs) → (∀ k d fs, o = .ins k d fs → fs.length = 3) → a ∉ m :: A := fun {a o} ha q1 q2 q => by
    rcases List.mem_cons.mp q with rfl | q
    · rw [g0] at ha
      cases ha
      exact absurd (q2 _ _ _ rfl) (by show ¬ (4 = 3); decide)
    · obtain ⟨xs, g1, g2⟩ := f _ q
      rw [g1] at ha
      cases ha
      obtain ⟨z, hz⟩ := q1 _ rfl
      exact g2 _ hz z rfl
  refine ⟨ls, le, ⟨dx, e _ _ (nt h1 (fun xs q => by cases q) (fun k d fs q => by cases q; rfl)) h1, e _ _ (nt h2 (fun xs q => ?_) (fun k d fs q => by cases q)) h2, ⟨ts, e _ _ (fun q => ?_) h3, h4.imp fun t xs g => e _ _ (nt g (fun xs q => by cases q) (fun k d fs q => by cases q)) g⟩, h5⟩, n⟩
  · cases q
    have h0 := h5.cr.few.1
    cases ns with
    | nil => simp at h0
    | cons n r => exact ⟨n, by simp⟩
  · rcases List.mem_cons.mp q with rfl | q
    · rw [g0] at h3
      cases h3
    · exact n q
theorem _root_.NbAp.LiveX.kp2 {A : List Addr} {m : Addr} {K : PySem.W.Frag} {H H' : Hp} {p : Addr} {b : Bool} {z : Int} {ns : List Str} {es : List En} {ms : List Int} {ls le lm : Addr} (h : LiveX K H p b z ns es ms ls le lm) (f : Plain A H) (g : LiveOb H m) (e : Kp (m :: A) H H') (np : p ≠ m) (q1 : le ∉ A) (q2 : lm ∉ A) : LiveX K H' p b z ns es ms ls le lm := by
  obtain ⟨⟨dx, h1⟩, h2, ⟨ts, h3, h4⟩, h5, h6, h7, h8, h9⟩ := h
  obtain ⟨c, dx2, z2, ls2, le2, lm2, g0⟩ := g
  have nl : ∀ {a : Addr} {xs : List V}, H a = some (.lst xs) → a ≠ m := fun {a xs} ha q => by
    rw [q, g0] at ha
    cases ha
  refine ⟨⟨dx, e _ _ (fun q => ?_) h1⟩, e _ _ (fun q => ?_) h2, ⟨ts, e _ _ (fun q => ?_) h3, h4.imp fun t xs g => e _ _ (fun q => ?_) g⟩, e _ _ (fun q => ?_) h5, h6, h7, h8, h9⟩
  · rcases List.mem_cons.mp q with q | q
    · exact np q
    · obtain ⟨xs, g, _⟩ := f _ q
      rw [h1] at g
      cases g
  · replace h2 : H ls = some (.lst (ns.map V.str)) := h2
    rcases List.mem_cons.mp q with q | q
    · exact nl h2 q
    · obtain ⟨xs, g, g2⟩ := f _ q
      rw [h2] at g
      cases g
      have h0 := h6.cr.few.1
      cases ns with
      | nil => simp at h0
      | cons n r => exact g2 (.str n) (by simp) n rfl
  · rcases List.mem_cons.mp q with q | q
    · exact nl h3 q
    · exact q1 q
  · rcases List.mem_cons.mp q with rfl | q
    · rw [g0] at g
      cases g
    · obtain ⟨xs', g', _⟩ := f _ q
      rw [g] at g'
      cases g'
  · rcases List.mem_cons.mp q with q | q
    · exact nl h5 q
    · exact q2 q
/-- two live logs of different lists are two objects -/
theorem _root_.NbAp.LiveX.two {K : PySem.W.Frag} {H : Hp} {p p' : Addr} {b b' : Bool} {z z' : Int} {ns ns' : List Str} {es es' : List En} {ms ms' : List Int} {ls le lm ls' le' lm' : Addr} (h : LiveX K H p b z ns es ms ls le lm) (h' : LiveX K H p' b' z' ns' es' ms' ls' le' lm') (n : le ≠ le') : p ≠ p' := fun q => by
  subst q
  obtain ⟨dx, h1⟩ := h.ob
  obtain ⟨dx', h2⟩ := h'.ob
  rw [h1] at h2
  injection h2 with h2
  injection h2 with _ _ h2
  injection h2 with _ h2
  injection h2 with _ h2
  injection h2 with h2 _
  injection h2 with _ h2
  injection h2 with h2
  exact n h2
theorem _root_.NbAp.LiveX.ob' {K : PySem.W.Frag} {H : Hp} {p : Addr} {b : Bool} {z : Int} {ns : List Str} {es : List En} {ms : List Int} {ls le lm : Addr} (h : LiveX K H p b z ns es ms ls le lm) : LiveOb H p := by
  obtain ⟨dx, h1⟩ := h.ob
  exact ⟨_, dx, _, _, _, _, h1⟩
end NbAq

set_option Elab.async false
set_option linter.all false
set_option maxRecDepth 100000
set_option maxHeartbeats 4000000
/-! an own exception class with a field; defs and methods that raise one. -/
namespace NbAr
open PySem PySem.Spec PyProof.Rows L2 Nb NbE NbS NbF NbP NbK NbL NbX NbW NbZ NbM
theorem oex_ok {K : PySem.W.Frag} {C : Addr} (h : oexB K C = true) : ∃ nm q N bs bm sn sub ab col dd k0 k1 k2 k3 k5, K.lookup C = some (excClassObj nm q C N bs bm true sn sub ab col dd k0 k1 k2 k3 k5 "ValueError.__new__") ∧ PySem.HandSPX.refsVE bm = true := by
  unfold oexB at h
  cases e : K.lookup C with
  | none =>
    rw [e] at h
    cases h
  | some o =>
    rw [e] at h
    obtain ⟨oc, od, odat, osl⟩ := o
    obtain ⟨sl⟩ := osl
    dsimp only at h
    split at h
    · rename_i t k k0 k1 k2 k3 n k5
      obtain ⟨h1, g1⟩ := He.ba h
      obtain ⟨h2, g2⟩ := He.ba g1
      obtain ⟨h3, g3⟩ := He.ba g2
      obtain ⟨h4, g4⟩ := He.ba g3
      clear h g1 g2 g3
      have e1 := of_decide_eq_true h1
      have e2 := of_decide_eq_true h2
      clear h1 h2
      subst e1 e2
      obtain ⟨nm, bs, mro, ns, qn, hd, sn, sub, ab, col, del⟩ := k
      dsimp only at h3 h4 g4
      cases mro with
      | nil => cases g4
      | cons c m =>
        cases c with
        | ref D =>
          obtain ⟨h5, h6⟩ := He.ba g4
          have e3 := of_decide_eq_true h5
          clear g4 h5
          subst e3
          cases hd with
          | false => cases h4
          | true =>
            cases del with
            | true => cases h3
            | false => exact ⟨nm, qn, ns, bs, m, sn, sub, ab, col, od, k0, k1, k2, k3, k5, rfl, h6⟩
        | _ => cases g4
    · cases h
/-- the class of the refused entries -/
abbrev NPc (K : PySem.W.Frag) : Addr := He.ga K "NotPossible"
structure NpF (K : PySem.W.Frag) (mg : Str → Option Value) : Prop where
  ox : OexC K (NPc K)
  xf : XfC K (NPc K)
  no : PySem.W.findIn K (.ref (NPc K)) "obstacle" = some none
  iC : PySem.W.findIn K (.ref (NPc K)) "__init__" = some (some (.ref (He.ma K (NPc K) "__init__")))
  tI : PySem.W.typeIn K (.ref (He.ma K (NPc K) "__init__")) = some (.type "function")
  gl : mg "NotPossible" = some (.ref (NPc K))
  me : PySem.W.exmOne K (.ref (NPc K)) (.ref (NPc K)) = some true
theorem np_of {K : PySem.W.Frag} {mg : Str → Option Value} (h : (npL K "NotPossible" "obstacle").all id = true) (g : mg "NotPossible" = some (.ref (NPc K))) : NpF K mg := by
  have xf := xfB_ok (all_at h 1)
  have mt := He.meth_ok (all_at h 6)
  exact ⟨⟨oex_ok (all_at h 0), He.eqO_ok (all_at h 2), xf.exC, of_decide_eq_true (all_at h 5), all_at h 4⟩, xf, He.noat_ok (all_at h 3), mt.at_, beq_iff_eq.mp mt.fn, g, He.exm_ok (all_at h 7)⟩
def sp_NotPossible_init (K : PySem.W.Frag) : Sp := fun vs H Q _ => ∃ (a : Addr) (y : V), vs = [.ref a, y] ∧ OexC K (NPc K) ∧ PySem.W.findIn K (.ref (NPc K)) "obstacle" = some none ∧ H a = some (exo a (NPc K) none) ∧
  ∀ dx, H dx = none → dx ≠ a → Q .non (upd (upd H dx (exd dx [("obstacle", y)])) a (exo a (NPc K) (some dx)))
/-- what NotPossible(y) asks where it is raised -/
def rNp (K : PySem.W.Frag) (W : Value → Option Addr → Hp → Prop) (y : V) (H : Hp) : Prop := [y].length ≤ 1000 ∧ ∀ a, H a = none → sp_NotPossible_init K (.ref a :: ([y] ++ [])) (upd H a (exo a (NPc K) none))
  (fun v H2 => v = .non ∧ ∃ (d : Addr) (fs : List (Str × V)), H2 a = some (exo a (NPc K) (some d)) ∧ H2 d = some (exd d fs) ∧ H d = none ∧ W (.ref (NPc K)) (some d) (upd (del H2 a) d (.xd fs))) (fun _ _ _ => False)
theorem np_go {K : PySem.W.Frag} {mg : Str → Option Value} {W : Value → Option Addr → Hp → Prop} {y : V} {H : Hp} (T : NpF K mg) (h : ∀ d, H d = none → W (.ref (NPc K)) (some d) (upd H d (.xd [("obstacle", y)]))) : rNp K W y H := by
  refine ⟨by show 1 ≤ 1000; decide, fun a ha => ⟨a, y, rfl, T.ox, T.no, upd_same, fun d hd nd => ?_⟩⟩
  rw [upd_ne nd] at hd
  refine ⟨rfl, d, _, upd_same, by rw [upd_ne nd, upd_same], hd, ?_⟩
  have e : upd (del (upd (upd (upd H a (exo a (NPc K) none)) d (exd d [("obstacle", y)])) a (exo a (NPc K) (some d))) a) d (.xd [("obstacle", y)]) = upd H d (.xd [("obstacle", y)]) := by
    funext b
    by_cases hb : b = d
    · rw [hb, upd_same, upd_same]
    · rw [upd_ne hb, upd_ne hb]
      by_cases hba : b = a
      · rw [hba, del_same, ha]
      · rw [del_ne hba, upd_ne hba, upd_ne hb, upd_ne hba]
  rw [e]
  exact h d hd
/-- raise NotPossible(e) -/
def tNp (K : PySem.W.Frag) (W : WX) (te : TE) : TS := fun _ σ H => te σ H fun y H1 => rNp K (fun cls d H' => W cls d σ H') y H1
/-- a def that may raise, by its name -/
structure CalD (P : Program) (w : World) (K : PySem.W.Frag) (mg : Str → Option Value) (base : Heap) (k : Nat) (x : Str) (sp : Sp) : Prop where
  ex : ∃ (f : Addr) (fd : FuncData) (ps : List Str), FnOk P w K mg base (L2.CX P w) k f fd ps sp ∧ mg x = some (.ref f) ∧ PySem.W.keepIn K (.ref f) = true ∧ Binds K fd ps []
/-- a method that may raise, called by keywords -/
structure CalKX (P : Program) (w : World) (K : PySem.W.Frag) (mg : Str → Option Value) (base : Heap) (k : Nat) (f : Addr) (ks : List Str) (gV : List V → List V → List V) (sp : Sp) : Prop where
  ex : ∃ (fd : FuncData) (ps : List Str) (g : List Value → List Value → List Value), FnOk P w K mg base (L2.CX P w) k f fd ps sp ∧ PySem.W.keepIn K (.ref f) = true ∧ KBn K fd ps 1 ks g gV
section
variable {X : Cx} {k j : Nat} {f : Addr} {sp : Sp} {C : Two} {W : WX} {x m : Str} {o e : Expr} {es : List Expr} {ta te : TE} {t : TA} {ks : List Str} {gV : List V → List V → List V} {kws : List Keyword} {tkw : TA} {apos p pos pos' : Pos} {pl : Sem Bool}
theorem ps_np (T : NpF X.K X.mg) (c : C8.CalAt X.prog X.w X.K X.mg X.base k (He.ma X.K (NPc X.K) "__init__") (sp_NotPossible_init X.K)) (hr : Room j X.A) (hk : k + 1 ≤ j) (hc : X.calm = true) (tk : Takes X W) (he : PE X e te) (hg : Gl X "NotPossible" := by rfl)
    (hst : starEach (e :: []) X.env = (false, eval e X.env) :: starEach [] X.env := by rfl) (hpl : (backTo pos (starEach [] X.env)).any (·.1) = false := by rfl) :
    PS X (.Raise (some (.Call (.Name "NotPossible" p) [e] [] pos)) none pos') (tNp X.K W te) := by
  obtain ⟨fd, ps, F, kp, b⟩ := c.ex
  exact ps_raise (pos := pos') hc tk (pmk_oex (es := []) T.ox T.iC T.tI F (hr.mono hk) b .nil pass0 hg T.gl (pa_cons he pa_nil hst) (by decide) hst hpl)
theorem pt_truthK {K : PySem.W.Frag} {a : Expr} (hK : X.K = K) (ha : PE X a ta) (he : ∀ whole, isTrue a X.env whole = (do let v ← whole; standAt a.pos; holding [v] (truthy v))) : PT X a (fun σ H Q => ta σ H fun x H' => ∃ k, TruV K x H' k ∧ Q k H') := by
  subst hK
  exact pt_truth ha he
theorem pe_cX (c : CalD X.prog X.w X.K X.mg X.base k x sp) (hr : Room j X.A) (hk : k ≤ j) (tk : Takes X W) (hg : Gl X x) (ha : PA X (e :: es) t) (hdb : (x == ("__debug__" : Str)) = false := by decide)
    (hst : starEach (e :: es) X.env = (false, eval e X.env) :: starEach es X.env := by rfl) (hpl : (backTo pos (starEach es X.env)).any (·.1) = false := by rfl) : PE X (.Call (.Name x p) (e :: es) [] pos) (tCallS sp (WE W) t) := by
  obtain ⟨f, fd, ps, F, hm, kp, b⟩ := c.ex
  exact pe_callS F (hr.mono hk) hg hm kp b (fun σ => passAt tk σ) ha hdb hst hpl
def tMeth2KX (C : Two) (m : Str) (n : Nat) (sp : Sp) (gV : List V → List V → List V) (W : WX) (ta : TE) (tkw : TA) : TE := fun σ H Q => ta σ H fun x H1 => ∃ (a : Addr) (c : Bool) (dx : Addr) (fs : List (Str × V)), x = .ref a ∧ H1 a = some (.ins (C c) dx fs) ∧ fs.lookup m = none ∧
  tkw σ H1 fun zs H2 => zs.length = n ∧ sp (gV [x] zs) H2 Q (WE W σ)
theorem pe_mt2KX (M : Met2 X.K C m f) (c : CalKX X.prog X.w X.K X.mg X.base k f ks gV sp) (hr : Room j X.A) (hk : k ≤ j) (tk : Takes X W) (he : PE X o ta) (hkw : PK X kws tkw) (hall : (backToKw pos (keywordEach kws X.env)).all (·.1.isSome) = true := by rfl)
    (hks : (backToKw pos (keywordEach kws X.env)).filterMap (·.1) = ks := by rfl) (hpl : ((backTo pos (starEach [] X.env)).any (·.1) || (backToKw pos (keywordEach kws X.env)).any (·.1.isNone)) = false := by rfl)
    (ht : eval (.Call (.Attribute o m apos) [] kws pos) X.env = (do
      let ov ← eval o X.env
      standAt apos.atName
      let (f, first) ← holding [ov] (getMethod ov m pl)
      callWith pos f first (backTo pos (starEach [] X.env)) (backToKw pos (keywordEach kws X.env))) := by rfl) : PE X (.Call (.Attribute o m apos) [] kws pos) (tMeth2KX C m ks.length sp gV W ta tkw) := by
  obtain ⟨fd, ps, g, F, kp, hb⟩ := c.ex
  refine ⟨fun pins s σ H Q I h => PySem.W.methodCall_KW (pl := pl) (thn (he.run pins s σ H _ I h) fun u s1 z => ?_) ht⟩
  obtain ⟨x, H1, I1, rx, a, c, dx, fs, rfl, ea, l, q⟩ := z
  cases rx
  refine getmeth_ok I1 ea (M.cl c) (M.me c) l (PySem.W.callWith_KW0 (first := [.ref a]) (h₀ := X.base) I1.ok.mod.kin (M.me c).kp hall ?_ hpl)
  refine thn (hkw.run pos pins s1 σ H1 _ I1 q) fun ws s2 z => ?_
  obtain ⟨zs, H2, I2, rz, l2, q2⟩ := z
  refine ⟨I2.kIn, ?_⟩
  rw [hks, List.append_nil]
  have ra : Vals [V.ref a] [Value.ref a] := .cons rfl .nil
  refine wpAny_call (codeAny_mono (F.run X.A X.stack s2 H2 ⟨[.ref a], ks.zip ws⟩ (g [.ref a] ws) (gV [.ref a] zs) Q (WE W σ) (hr.mono hk) I2.env0 (hb.to s2 [.ref a] ws I2.kIn rfl (by rw [← rz.length]; exact l2)) (hb.rel ra rz) q2) fun r s' hq => ?_)
  cases r with
  | error e => exact passAt tk σ pins H2 s2 e s' I2 hq
  | ok fl => cases fl with
    | ret u => exact I2.after hq
    | _ => exact hq.elim
end
end NbAr

set_option Elab.async false
set_option linter.all false
set_option maxRecDepth 100000
set_option maxHeartbeats 4000000
/-! del xs[i:] of a list; live logs. -/
namespace NbAc
open PySem PySem.Spec PyProof.Rows L2 Nb NbE NbS NbF NbP NbK NbL NbX NbW NbZ NbM NbQ NbC NbG NbH NbI NbJ NbO NbA NbD NbN NbAa NbAb
section
variable {prog : Program} {w : World} {A : Around} {E : Value → Shared → Prop} {s : Shared}
theorem bounds_end {a n : Nat} (hac : a ≤ n) : sliceBounds (some (a : Int)) none none n = ((a : Int), (n : Int), 1) := by
  simp only [sliceBounds, Option.getD_none]
  have h1 : ¬ ((a : Int) < 0) := by omega
  simp only [h1, if_false, show (1 : Int) > 0 by decide, if_true]
  congr 1
  · omega
theorem keep_to (a : Nat) (f : Value × Nat → Option Value) : ∀ (its : List Value) (m : Nat), (∀ x k, m ≤ k → k < m + its.length → f (x, k) = if k < a then some x else none) → (its.zipIdx m).filterMap f = its.take (a - m)
  | [], m, _ => by simp
  | x :: its, m, hf => by
    have ih := keep_to a f its (m + 1) fun y k h1 h2 => hf y k (by omega) (by rw [List.length_cons]; omega)
    rw [List.zipIdx_cons, List.filterMap_cons, hf x m (Nat.le_refl _) (by rw [List.length_cons]; omega), ih]
    by_cases h : m < a
    · rw [if_pos h, show a - m = (a - (m + 1)) + 1 by omega, List.take_succ_cons]
    · rw [if_neg h, show a - (m + 1) = 0 by omega, show a - m = 0 by omega, List.take_zero, List.take_zero]
set_option maxRecDepth 100000 in
theorem delItem_slice {l sl : Addr} {items : Array Value} {n : Nat} {vl : Value} {a : Nat} {Q : Unit → Shared → Prop}
    (e : s.heap.get? l = some { cls := .type "list", data := .seq items n })
    (hs : s.heap.IsSliceOf sl vl .none .none) (pl : IsPart vl (some (a : Int))) (hc : a ≤ items.size)
    (hsz : items.size ≤ sizeLine) (h : ∀ f : Array Value → Array Value, f items = (items.toList.take a).toArray → Q () { s with heap := s.heap.update l (Obj.mapSeq f) }) :
    wpAny (model prog w) A (delItem (.ref l) (.ref sl)) Q E s := by
  have hl : s.heap.IsList l items := PySem.IsL.isList e
  obtain ⟨os, hos, hcs, hds⟩ := id hs
  have hTs : s.TypeIs (.ref sl) "slice" := ⟨os, hos, hcs⟩
  have hstep : ¬ ((rawPart none == rawInt 0) = true) := Bool.false_ne_true
  unfold delItem
  try with_reducible refine wpAny_holding ?_
  first | refine wpAny_bind (wpAny_pure ?_) | skip
  refine wpAny_bind (wpAny_sequenceKey hl.typeIs (by decide) ?_)
  refine wpAny_bind (wpAny_callSpecial?_slot (name := Str.ofString "__delitem__") hl.typeIs F.slot_list_delitem
    (wpAny_call_entry F.slot_list_delitem hl.typeIs F.entry_list_delitem ?_ (F.args_list_delitem_2 _ _)))
  show wpAny _ _ (Builtin.List.listSubscript? (.ref sl) >>= _) _ _ s
  refine wpAny_bind ?_
  unfold Builtin.List.listSubscript?
  refine wpAny_bind (wpAny_specialOf hTs slice_no_index ?_)
  simp only [Option.isNone_none, if_true]
  refine wpAny_pure ?_
  show wpAny _ _ (typeOf (.ref sl) >>= _) _ _ s
  refine wpAny_bind (wpAny_typeOf hTs ?_)
  first
    | rw [if_neg (by decide)]
    | refine PySem.W.KFB.if_not (by decide) ?_
  rw [listSliceParts_eq]
  refine wpAny_bind (wpAny_bind (wpAny_field hos hds (x := .none) rfl (wpAny_bind (wpAny_listPart .none ?_))))
  rw [if_neg hstep]
  refine wpAny_bind (wpAny_field hos hds (x := vl) rfl (wpAny_bind (wpAny_listPart pl ?_)))
  refine wpAny_bind (wpAny_field hos hds (x := .none) rfl (wpAny_bind (wpAny_listPart .none (wpAny_pure ?_))))
  unfold Builtin.List.listItems
  refine wpAny_bind (wpAny_bind (wpAny_seqItems e rfl (wpAny_pure ?_)))
  refine wpAny_bind (wpAny_of_eq ((sliceIndices_raw (some (a : Int)) none none items.size (by simp)).trans (congrArg (pure : Int × Int × Int → Sem (Int × Int × Int)) (bounds_end hc))) ?_)
  refine wpAny_bind (wpAny_rule ?_)
  have hf : ∀ f : Value × Nat → Option Value, (∀ x k, k < items.size → f (x, k) = if k < a then some x else none) → (List.filterMap f items.toList.zipIdx) = items.toList.take a := fun f hf => by
    have := keep_to a f items.toList 0 fun x k _ h2 => hf x k (by simpa using h2)
    simpa using this
  have sel : ∀ (x : Value) (k : Nat), k < items.size → (if (if (1 : Int) > 0 then decide ((a : Int) ≤ (k : Int)) && decide ((k : Int) < (items.size : Int)) && (((k : Int) - (a : Int)) % 1 == 0) else decide ((items.size : Int) < (k : Int)) && decide ((k : Int) ≤ (a : Int)) && (((a : Int) - (k : Int)) % (-1) == 0)) = true then none else some x) = if k < a then some x else none := fun x k hk => by
    rw [if_pos (by decide : (1 : Int) > 0), Int.emod_one]
    by_cases h : k < a
    · rw [if_pos h, if_neg (by simp; omega)]
    · rw [if_neg h, if_pos (by simp; omega)]
  refine wpAny_bind (wpAny_updateSeq (hz := hsz) (_hz' := ?_) e rfl ?_)
  · refine wpAny_bind (wpAny_letGo ?_)
    refine wpAny_pure ⟨.none, rfl, wpAny_pure (h _ ?_)⟩
    exact congrArg List.toArray (hf _ fun x k hk => sel x k hk)
  · show (List.toArray _).size ≤ _
    rw [hf _ fun x k hk => sel x k hk]
    rw [List.size_toArray, List.length_take]
    have : items.toList.length = items.size := by simp
    omega
end
/-- del xs[i:] -/
def tDelSl (to ti : TE) : TS := fun D σ H => to σ H fun x H1 => ti σ H1 fun y H2 => ∃ (l : Addr) (xs : List V) (k : Nat), x = .ref l ∧ y = .int (k : Int) ∧ H2 l = some (.lst xs) ∧ k ≤ xs.length ∧ D.nx σ (upd H2 l (.lst (xs.take k)))
section
variable {X : Cx}
theorem ps_delSl {o i : Expr} {to ti : TE} {tpos pos p2 : Pos} (ho : PE X o to) (hi : PE X i ti) : PS X (.Delete [.Subscript o (.Slice (some i) none none p2) tpos] pos) (tDelSl to ti) := by
  refine ⟨fun pins s σ H D I h => ?_⟩
  refine wpAny_Delete (wpAny_deleteEach_cons (wpAny_delete_Subscript (thn (ho.run pins s σ H _ I h) fun u s1 ⟨x, H1, I1, rx, q1⟩ => ?_)))
  refine wpAny_Slice ?_
  rw [evalPart_some, evalPart_none]
  refine thn (hi.run pins s1 σ H1 _ I1 q1) fun iv s2 ⟨y, H2, I2, ry, q2⟩ => ?_
  obtain ⟨l, xs, k, ex, ey, hH, hk, q2⟩ := q2
  subst ex
  subst ey
  cases (show u = Value.ref l from rx)
  obtain ⟨t, rfl⟩ := (show ∃ t, iv = Value.int (k : Int) t from ry)
  first
    | refine wpAny_pure (wpAny_pure ?_)
    | refine wpAny_pure ?_
  have I4 : Inv X pins σ H2 { s2 with heap := s2.heap.push { cls := .type "slice", data := .fields #[Value.int (k : Int) t, Value.none, Value.none] } } := I2.kept (t' := s2.toks) fun b ob q => Heap.get?_push_of_some _ q
  obtain ⟨z, its, n, r, hl, e⟩ := I4.lstM hH
  refine delItem_slice (a := k) e (Heap.IsSliceOf.new ..) (.int _ _) (by rw [List.size_toArray]; omega) (by rw [List.size_toArray]; omega) fun f hf => wpAny_deleteEach_nil ⟨σ, _, ?_, q2⟩
  refine I4.lset (its' := its.take k) (t' := s2.toks) hH e ?_ (r.take k) ?_
  · exact hf
  · rw [List.length_take]
    omega
end
end NbAc

set_option Elab.async false
set_option linter.all false
set_option maxRecDepth 100000
set_option maxHeartbeats 4000000
/-! Numbers one by one: ranges written out. -/
namespace NbAs
open PySem PySem.Spec PyProof.Rows L2 Nb NbR NbE NbS NbF NbP NbK NbL NbX NbW NbV NbZ NbM NbQ NbC NbG NbH NbI NbJ NbO NbA NbD NbN NbAa NbAb NbAg NbAi NbAj NbAk NbAm NbAn
/-- the numbers from a on, below b -/
def rgI (a b : Int) : List Int := (List.range (b - a).toNat).map fun (i : Nat) => a + (i : Int)
theorem rgV_eq (a b : Int) : rgV a b = (rgI a b).map V.int := by
  unfold rgV rgI
  rw [List.map_map]
  rfl
theorem mem_rgI {a b k : Int} : k ∈ rgI a b ↔ a ≤ k ∧ k < b := by
  unfold rgI
  rw [List.mem_map]
  constructor
  · rintro ⟨i, hi, rfl⟩
    have := List.mem_range.mp hi
    omega
  · rintro ⟨h1, h2⟩
    exact ⟨(k - a).toNat, List.mem_range.mpr (by omega), by omega⟩
theorem rgI_len (a b : Int) : (rgI a b).length = (b - a).toNat := by
  unfold rgI
  rw [List.length_map, List.length_range]
theorem rgI_asc (a b : Int) : (rgI a b).Pairwise (· < ·) := by
  unfold rgI
  refine List.pairwise_map.mpr (List.pairwise_lt_range.imp fun {x y} h => ?_)
  show a + (x : Int) < a + (y : Int)
  omega
theorem rgI_last {a b : Int} (h : a < b) : (rgI a b).getLast? = some (b - 1) := by
  unfold rgI
  obtain ⟨m, hm⟩ : ∃ m : Nat, (b - a).toNat = m + 1 := ⟨(b - a).toNat - 1, by omega⟩
  rw [hm, List.range_succ, List.map_append, List.map_singleton, List.getLast?_concat]
  congr 1
  omega
theorem rgI_snoc {a b : Int} (h : a ≤ b) : rgI a (b + 1) = rgI a b ++ [b] := by
  unfold rgI
  obtain ⟨m, hm⟩ : ∃ m : Nat, (b - a).toNat = m := ⟨_, rfl⟩
  rw [show (b + 1 - a).toNat = m + 1 by omega, hm, List.range_succ, List.map_append, List.map_singleton]
  congr 2
  omega
def flatI (l : List (Int × Int)) : List Int := l.flatMap fun r => rgI r.1 (r.2 + 1)
theorem flatI_snoc (l : List (Int × Int)) (r : Int × Int) : flatI (l ++ [r]) = flatI l ++ rgI r.1 (r.2 + 1) := by
  unfold flatI
  rw [List.flatMap_append]
  simp
theorem mem_flatI {k : Int} {l : List (Int × Int)} : k ∈ flatI l ↔ InR k l := by
  unfold flatI InR
  rw [List.mem_flatMap]
  constructor
  · rintro ⟨r, hr, h⟩
    have := mem_rgI.mp h
    exact ⟨r, hr, this.1, by omega⟩
  · rintro ⟨r, hr, h1, h2⟩
    exact ⟨r, hr, mem_rgI.mpr ⟨h1, by omega⟩⟩
theorem flatI_asc : ∀ {l : List (Int × Int)}, Can l → (flatI l).Pairwise (· < ·)
  | [], _ => List.Pairwise.nil
  | a :: l, h => by
    show (rgI a.1 (a.2 + 1) ++ flatI l).Pairwise (· < ·)
    refine List.pairwise_append.mpr ⟨rgI_asc _ _, flatI_asc h.tail, fun x hx y hy => ?_⟩
    have h1 := mem_rgI.mp hx
    have h2 := inR_far h (mem_flatI.mp hy)
    omega
theorem flatI_last {l : List (Int × Int)} {r : Int × Int} (h : r.1 ≤ r.2) : (flatI (l ++ [r])).getLast? = some r.2 := by
  rw [flatI_snoc, List.getLast?_append, rgI_last (by omega), show r.2 + 1 - 1 = r.2 by omega]
  rfl
theorem flatI_eq {l : List (Int × Int)} {xs : List Int} (h : Can l) (hx : xs.Pairwise (· < ·)) (hm : ∀ k, k ∈ xs ↔ InR k l) : flatI l = xs :=
  eq_of_lt (flatI_asc h) hx fun k => by rw [mem_flatI, hm]
/-- ranges of which the last one has no end, below a bound -/
def cloP (m : Int) (p : OR) : Int × Int := (p.1, match p.2 with
  | some c => c
  | none => m - 1)
theorem clo_to (m : Int) (l : List (Int × Int)) : (toO l).map (cloP m) = l := by
  unfold toO
  rw [List.map_map]
  exact (List.map_congr_left fun p _ => rfl).trans (List.map_id l)
theorem fin_clo {l : List (Int × Int)} {B m : Int} (can : Can l) (hb : ∀ r ∈ l, r.2 ≤ B - 1) (hm : B < m) : Can ((finO l B).map (cloP m)) ∧ ∀ k, InR k ((finO l B).map (cloP m)) ↔ InR k l ∨ (B ≤ k ∧ k < m) := by
  have one : ∀ (li : List (Int × Int)) (x : Int × Int) (k : Int), InR k (li ++ [x]) ↔ InR k li ∨ (x.1 ≤ k ∧ k ≤ x.2) := fun li x k => by
    unfold InR
    constructor
    · rintro ⟨r, hr, h⟩
      rcases List.mem_append.mp hr with g | g
      · exact .inl ⟨r, g, h⟩
      · rw [List.mem_singleton.mp g] at h
        exact .inr h
    · rintro (⟨r, hr, h⟩ | h)
      · exact ⟨r, List.mem_append_left _ hr, h⟩
      · exact ⟨x, by simp, h⟩
  unfold finO
  rcases List.eq_nil_or_concat l with rfl | ⟨li, x, rfl⟩
  · refine ⟨⟨fun r hr => ?_, ?_⟩, fun k => ?_⟩
    · rw [List.mem_singleton.mp (show r ∈ [(B, m - 1)] from hr)]
      show B ≤ m - 1
      omega
    · exact List.pairwise_singleton ..
    · show InR k ([] ++ [(B, m - 1)]) ↔ _
      rw [one]
      show InR k [] ∨ (B ≤ k ∧ k ≤ m - 1) ↔ _
      exact or_congr Iff.rfl (by omega)
  · rw [List.concat_eq_append] at can hb ⊢
    rw [List.getLast?_concat]
    have lx := can.le x (by simp)
    have bx := hb x (by simp)
    have cp := List.pairwise_append.mp can.gap
    simp only
    by_cases g : x.2 = B - 1
    · rw [if_pos g, List.dropLast_concat, List.map_append, clo_to]
      show Can (li ++ [(x.1, m - 1)]) ∧ ∀ k, InR k (li ++ [(x.1, m - 1)]) ↔ _
      refine ⟨⟨fun r hr => ?_, List.pairwise_append.mpr ⟨cp.1, List.pairwise_singleton .., fun a ha b hb' => ?_⟩⟩, fun k => ?_⟩
      · rcases List.mem_append.mp hr with h | h
        · exact can.le r (List.mem_append_left _ h)
        · rw [List.mem_singleton.mp h]
          show x.1 ≤ m - 1
          omega
      · have := cp.2.2 a ha x (by simp)
        rw [List.mem_singleton.mp hb']
        exact this
      · rw [one, one, or_assoc]
        refine or_congr Iff.rfl ?_
        show x.1 ≤ k ∧ k ≤ m - 1 ↔ _
        omega
    · rw [if_neg g, List.map_append, clo_to]
      show Can (li ++ [x] ++ [(B, m - 1)]) ∧ ∀ k, InR k (li ++ [x] ++ [(B, m - 1)]) ↔ _
      refine ⟨⟨fun r hr => ?_, List.pairwise_append.mpr ⟨can.gap, List.pairwise_singleton .., fun a ha b hb' => ?_⟩⟩, fun k => ?_⟩
      · rcases List.mem_append.mp hr with h | h
        · exact can.le r h
        · rw [List.mem_singleton.mp h]
          show B ≤ m - 1
          omega
      · rw [List.mem_singleton.mp hb']
        show a.2 + 1 < B
        rcases List.mem_append.mp ha with h | h
        · have := cp.2.2 a h x (by simp)
          omega
        · rw [List.mem_singleton.mp h]
          omega
      · rw [one]
        refine or_congr Iff.rfl ?_
        show B ≤ k ∧ k ≤ m - 1 ↔ _
        omega
theorem eqv_ints : ∀ ns ms : List Int, PyData.eqvAll (ns.map PyData.int) (ms.map PyData.int) = decide (ns = ms)
  | [], [] => by simp [PyData.eqvAll]
  | [], _ :: _ => by simp [PyData.eqvAll]
  | _ :: _, [] => by simp [PyData.eqvAll]
  | n :: ns, m :: ms => by
    show ((n == m) && PyData.eqvAll (ns.map PyData.int) (ms.map PyData.int)) = _
    rw [eqv_ints ns ms, Bool.eq_iff_iff]
    simp
theorem ne_int2 {K : PySem.W.Frag} {H : Hp} {l p : Addr} {xs ys : List Int} {Q : VK} (hl : H l = some (.lst (xs.map V.int))) (hp : H p = some (.lst (ys.map V.int))) (q : Q (.bl (!decide (xs = ys))) H) : rNeD K (.ref l) (.ref p) H Q := by
  refine ⟨_, _, .lst (SqL.of hl) (dp_ints xs), .lst (SqL.of hp) (dp_ints ys), shaped_ints xs, shaped_ints ys, ?_⟩
  show Q (.bl (!PyData.eqvAll (xs.map PyData.int) (ys.map PyData.int))) H
  rw [eqv_ints]
  exact q
theorem eq_int2 {K : PySem.W.Frag} {H : Hp} {l p : Addr} {xs ys : List Int} {Q : VK} (hl : H l = some (.lst (xs.map V.int))) (hp : H p = some (.lst (ys.map V.int))) (q : Q (.bl (decide (xs = ys))) H) : rEqD K (.ref l) (.ref p) H Q := by
  refine ⟨_, _, .lst (SqL.of hl) (dp_ints xs), .lst (SqL.of hp) (dp_ints ys), shaped_ints xs, shaped_ints ys, ?_⟩
  show Q (.bl (PyData.eqvAll (xs.map PyData.int) (ys.map PyData.int))) H
  rw [eqv_ints]
  exact q
theorem pair_shown (d : PyData) : (PyData.list [d, d]).shown = Str.ofString "[" ++ d.shown ++ Str.ofString ", " ++ d.shown ++ Str.ofString "]" := by
  simp only [PyData.shown, PyData.shownAll]
  rfl
theorem cutInit (xs : List V) (x : V) : cutV (xs ++ [x]) none (some (-1)) = xs := by
  unfold cutV
  rw [HT.sIx_none]
  have e : HT.sIx (xs ++ [x]).length (xs ++ [x]).length (some (-1)) = xs.length := by
    show (if (-1 : Int) < 0 then ((-1 : Int) + ((xs ++ [x]).length : Int)).toNat else min (-1 : Int).toNat (xs ++ [x]).length) = xs.length
    rw [if_pos (by decide), List.length_append, List.length_singleton]
    omega
  rw [e, Nat.sub_zero, List.drop_zero, List.take_left]
theorem shwLen {W D : Nat} {d : PyData} (h : Shw W D d) : d.shown.length ≤ 72 * W + 70 := by
  have h1 := PyData.shown_le 70 (by decide) d h.lv
  have := h.wt
  omega
theorem shwOr {l : List OR} (hl : l.length ≤ 100) (h : ∀ p ∈ l, -(10 ^ 60) < p.1 ∧ p.1 < 10 ^ 60 ∧ ∀ c, p.2 = some c → -(10 ^ 60) < c ∧ c < 10 ^ 60) : Shw 40500 2 (.list (l.map orD)) := shw_list (W := 404) (D := 1) (n := 100) (fun d hd => by
  obtain ⟨p, hp, rfl⟩ := List.mem_map.mp hd
  obtain ⟨a, b, c⟩ := h p hp
  refine shw_tup (W := 201) (D := 0) (n := 2) (fun d' hd => ?_) (Nat.le_refl _)
  rcases List.mem_cons.mp hd with rfl | hd
  · exact shw_int a b
  · cases List.mem_singleton.mp hd
    cases ho : p.2 with
    | none => exact shw_non.mono (by decide) (by decide)
    | some v =>
      obtain ⟨c1, c2⟩ := c v ho
      exact shw_int c1 c2) (by rw [List.length_map]; exact hl)
theorem shwPair {W D : Nat} {d : PyData} (h : Shw W D d) : Shw (2 * (W + 1)) (D + 1) (.list [d, d]) := shw_list (n := 2) (fun x hx => by
    rcases List.mem_cons.mp hx with rfl | hx
    · exact h
    · cases List.mem_singleton.mp hx
      exact h) (Nat.le_refl _)
theorem repOne {K : PySem.W.Frag} {H : Hp} {W D : Nat} {a : Addr} {d : PyData} {Q : VK} (h : Shw W D d) (hW : W ≤ 200000) (hD : D ≤ 60) (hd : Dp K H (.ref a) d) (q : Q (.str d.shown) H) : rRepD K [.ref a] H Q := ⟨a, d, rfl, hd, h.sh, h.nd, Nat.le_trans h.dp hD, h.fits hW, q⟩
theorem repPair {K : PySem.W.Frag} {H : Hp} {W D : Nat} {a : Addr} {x y : V} {d : PyData} {Q : VK} (h : Shw W D d) (hW : 2 * (W + 1) ≤ 200000) (hD : D + 1 ≤ 60) (ha : H a = some (.lst [x, y])) (hx : Dp K H x d) (hy : Dp K H y d) (q : Q (.str (PyData.list [d, d]).shown) H) : rRepD K [.ref a] H Q :=
  repOne (shwPair h) hW hD (.lst (SqL.of ha) (.cons hx (.cons hy .nil))) q
theorem orData {K : PySem.W.Frag} {H : Hp} {a : Addr} {ts : List Addr} {l : List OR} (ha : H a = some (.lst (ts.map V.ref))) (h : PrsO H ts l) : Dp K H (.ref a) (.list (l.map orD)) := .lst (SqL.of ha) (prsO_dp h)
theorem fin_end (l : List (Int × Int)) (B : Int) : ∃ (li : List (Int × Int)) (a : Int), finO l B = toO li ++ [(a, none)] := by
  unfold finO
  cases l.getLast? with
  | none => exact ⟨[], B, rfl⟩
  | some r =>
    simp only
    by_cases h : r.2 = B - 1
    · rw [if_pos h]
      exact ⟨l.dropLast, r.1, rfl⟩
    · rw [if_neg h]
      exact ⟨l, B, rfl⟩
theorem toO_some {l : List (Int × Int)} {r : OR} (h : r ∈ toO l) : ∃ c, r.2 = some c := by
  unfold toO at h
  obtain ⟨p, _, rfl⟩ := List.mem_map.mp h
  exact ⟨p.2, rfl⟩
/-- addresses and what stands there, one by one -/
def All2 {α : Type} (R : Addr → α → Prop) (us : List Addr) (ps : List α) : Prop := us.length = ps.length ∧ ∀ (i : Nat) u p, us[i]? = some u → ps[i]? = some p → R u p
section
variable {α : Type} {R R' : Addr → α → Prop} {us vs : List Addr} {ps qs : List α} {u : Addr} {p : α}
theorem All2.nil : All2 R [] [] := ⟨rfl, fun i u p h => by simp at h⟩
theorem All2.cat (h : All2 R us ps) (g : All2 R vs qs) : All2 R (us ++ vs) (ps ++ qs) := ⟨by rw [List.length_append, List.length_append, h.1, g.1], fun i u p hu hp => by
  rcases Nat.lt_or_ge i us.length with l | l
  · rw [List.getElem?_append_left l] at hu
    rw [List.getElem?_append_left (by rw [← h.1]; exact l)] at hp
    exact h.2 i u p hu hp
  · rw [List.getElem?_append_right l] at hu
    rw [List.getElem?_append_right (by rw [← h.1]; exact l), ← h.1] at hp
    exact g.2 _ u p hu hp⟩
theorem All2.one (r : R u p) : All2 R [u] [p] := ⟨rfl, fun i u' p' hu hp => by
  match i, hu, hp with
  | 0, hu, hp =>
    cases hu
    cases hp
    exact r⟩
theorem All2.snoc (h : All2 R us ps) (r : R u p) : All2 R (us ++ [u]) (ps ++ [p]) := h.cat (.one r)
theorem All2.imp (h : All2 R us ps) (k : ∀ u p, p ∈ ps → R u p → R' u p) : All2 R' us ps := ⟨h.1, fun i u p hu hp => k u p (List.mem_of_getElem? hp) (h.2 i u p hu hp)⟩
theorem All2.get (h : All2 R us ps) {i : Nat} (hu : us[i]? = some u) : ∃ p, ps[i]? = some p ∧ R u p := by
  have hl := (List.getElem?_eq_some_iff.mp hu).1
  rw [h.1] at hl
  exact ⟨_, List.getElem?_eq_getElem hl, h.2 i u _ hu (List.getElem?_eq_getElem hl)⟩
end
theorem op_notIn_seqK {X : Cx} {K : PySem.W.Frag} (hK : X.K = K) : OpR X (compareOp .NotIn) (rIn K true) := hK ▸ op_notIn_seq
end NbAs

set_option Elab.async false
set_option linter.all false
set_option maxRecDepth 100000
set_option maxHeartbeats 4000000
namespace LawP
open PySem PySem.Spec PyProof.Rows L2 Nb NbR NbB NbE NbT NbU NbS NbF NbP NbK NbL NbX NbW NbV NbZ NbY NbM NbQ NbC NbG NbH NbI NbJ NbO NbA NbD NbN NbAa NbAb NbAd NbAe NbAf NbAg NbAh NbAi NbAj NbAk NbAl NbAm NbAn NbAo NbAp NbAq NbAr NbAc NbAs
local macro_rules
  | `(tactic| walk_at "rd") => `(tactic| simp only [L2.start, L2.cxOf, L2.Cx.blk, List.map_cons, List.map_nil, List.length_cons, List.length_nil, Nat.zero_add, Nat.reduceAdd, Nat.reduceSub, List.replicate, List.cons_append, List.nil_append, List.append_nil,
      List.getElem?_cons_zero, List.getElem?_cons_succ, Option.some.injEq, exists_eq_left', exists_eq_left, exists_and_left, V.int.injEq, V.ref.injEq, V.bl.injEq, V.str.injEq, List.set_cons_zero, List.set_cons_succ, List.cons.injEq, and_true, true_and, L2.wipe,
      tVar, tC, tOp, tUn, tAndV, tOrV, tNotV, tIf, tB, tTest, tAnd, tOr, tNot, tYes, tCB, tCons, tNil, tSeq, tAsg, tRet, tRetN, tDrop, tIfS, tNext, tBreak, tCont, tLst, tTup, gName, gCons, gNil, gTup, gSub, gLst, tChain3, tCall, tMake, tMeth2, tProp2, tFld, tCon, ClX.tCVal, C8.tCallV, tSl, tPart, tNoPart, tRevL, tDSetd, tDGet, tDGet2, tDIn, tDNotIn, sDPut, tCallK0, iEnum, iRev, NbB.tListZip, NbX.tAdd2S, NbX.tMeth2S, NbX.tMeth2K, NbK.rLen2, tCKw, tMakeK, tDNewK, tDisp, tPairs,
      tJs, tFmt, tDelL, NbAc.tDelSl, tCallS, NbAr.tMeth2KX, NbAr.tNp, tOst, tXf, wAs, WE, tLock, tLockE, iKeys, rI0, rI, rU, rIxL, rIxT, rSetL, tPar, tPar3, rSetD, tChain, tBits, tBM, tBM0, tLenSetS, tIsN, tNotN, NbF.tFor_eq, NbF.tLc_eq, NbAh.tDc_eq, iRng1, iRng2, iRng3, iList, iTup, iZip, NbAf.iEnZ, iRevR, tRg1, tRg2, tLstRg, sFld, if_true, if_false, Bool.not_true, Bool.not_false, Bool.false_eq_true, decide_eq_true_eq, Bool.not_eq_true', Bool.not_eq_false', decide_eq_false_iff_not, Int.not_le, Int.not_lt, eq_self, NbF.b1, NbF.b2, NbF.b3, NbF.b4, NbF.b5, NbF.dk1, decide_true, decide_false, ite_self, Bool.true_eq_false, reduceCtorEq])
theorem loop_wh {c : TT} {tb : TS} {D : Ends} {σ : L2.St} {H : Hp} (W : Nat → L2.St → Hp → Prop) (m : Nat) (h0 : W m σ H) (hs : ∀ m σ H, W m σ H → c σ H fun b H1 => if b = true then ∃ N : L2.St → Hp → Prop, (∀ σ' H', N σ' H' → ∃ m', m' < m ∧ W m' σ' H') ∧ tb { D with nx := N, ct := N, bk := D.nx } σ H1 else D.nx σ H1) : tWhile c tb D σ H := ⟨W, ⟨m, h0⟩, hs⟩
theorem cut_ints (us : List Int) (lo hi : Option Int) : ∃ us' : List Int, cutV (us.map V.int) lo hi = us'.map V.int ∧ (∀ u ∈ us', u ∈ us) ∧ us'.length ≤ us.length := by
  unfold cutV
  rw [← List.map_drop, ← List.map_take]
  refine ⟨_, rfl, fun u hu => List.mem_of_mem_drop (List.mem_of_mem_take hu), ?_⟩
  rw [List.length_take, List.length_drop]
  omega
def sp_law_urn (K : PySem.W.Frag) : Sp := fun vs H Q _ => ∃ (a : Addr) (ns : List Int), vs = [.ref a] ∧ SqL K H a (ns.map V.int) ∧ ns.length ≤ 63 ∧ ∀ fa L H', H fa = none → H L = none → Same H H' → UrnL 0 H' fa L → Q (.ref fa) H'
def sp_law_lot (_ : PySem.W.Frag) : Sp := fun vs H Q _ => ∃ (fa L : Addr) (n : Int) (k : Nat), vs = [.ref fa, .int n] ∧ UrnL k H fa L ∧ k ≤ 1000000 ∧ 0 < n ∧ n ≤ 10 ^ 200 ∧ ∀ (r : Int) H', 0 ≤ r → r < n → StU fa L 1 H H' → Q (.int r) H'
def sp_law_names (_ : PySem.W.Frag) : Sp := fun vs H Q _ => ∃ (fa L : Addr) (m : Int) (k : Nat), vs = [.ref fa, .int m] ∧ UrnL k H fa L ∧ k ≤ 900000 ∧ 1 ≤ m ∧ m ≤ 12 ∧ ∀ c ns H', H c = none → StU fa L 110 H H' → CrewAt H' c ns → Crew ns → (ns.length : Int) ≤ m → Q (.ref c) H'
theorem ents_init {H : Hp} {t : Addr} {e : En} : ∀ {ts : List Addr} {es : List En}, Ents H (ts ++ [t]) (es ++ [e]) → Ents H ts es
  | [], [], _ => trivial
  | [], _ :: r, h => by
    have hl := h.len
    simp at hl
  | _ :: r, [], h => by
    have hl := h.len
    simp at hl
  | _ :: _, _ :: _, h => ⟨h.1, ents_init h.2⟩
def sp_law_live (K : PySem.W.Frag) : Sp := fun vs H Q _ => ∃ (b : Bool) (z : Int) (c : Addr) (ns : List Str), vs = [.int z, .ref c, .bl b] ∧ SizeOk z ∧ CrewAt H c ns ∧ Crew ns ∧ ∀ p ls le lm H', H p = none → H ls = none → H le = none → H lm = none → Same H H' → LiveX K H' p b z ns [] [] ls le lm → Q (.ref p) H'
def sp_law_log (K : PySem.W.Frag) : Sp := fun vs H Q _ => ∃ (b : Bool) (z : Int) (c s : Addr) (ns : List Str) (es : List En), vs = [.int z, .ref c, .ref s, .bl b] ∧ WF z ns es ∧ CrewAt H c ns ∧ EntsAt H s es ∧ NewLog K H Q b z ns es
theorem mk_live {K : PySem.W.Frag} {H : Hp} {Q : VK} {b : Bool} {z : Int} {c : Addr} {ns : List Str} (hz : SizeOk z) (hc : CrewAt H c ns) (hcr : Crew ns) (q : ∀ p ls le lm H', H p = none → H ls = none → H le = none → H lm = none → Same H H' → LiveX K H' p b z ns [] [] ls le lm → Q (.ref p) H') : ∀ (x dx : Addr), H x = none → H dx = none → dx ≠ x → sp_LiveLog_init K [.ref x, .int z, .ref c] (upd (upd H dx (.own x)) x (.ins (C3 K b) dx [])) (fun v H2 => v = V.non ∧ Q (.ref x) H2) C8.E0 := fun x dx h1 h2 h3 => by
  have k1 := Same.new (o := .own x) (Same.refl H) h2
  have k2 : Same H (upd (upd H dx (.own x)) x (.ins (C3 K b) dx [])) := Nb.Same.mut k1 h1
  refine ⟨x, dx, b, z, c, ns, rfl, upd_same, hz, k2 _ _ hc, hcr, fun H' ls le lm kp hX f1 f2 f3 => ⟨rfl, q x ls le lm H' h1 (k2.free f1) (k2.free f2) (k2.free f3) (fun a o h => kp a o (fun e => by rw [e, h1] at h; cases h) (k2 _ _ h)) hX⟩⟩
theorem ens_nm {ns : List Str} {es : List En} (h : EnsOk ns es) : ∀ e ∈ es, e.1 ∈ ns := fun e he => by
  have h0 := h.ok e he
  unfold enOk at h0
  rw [Bool.and_eq_true] at h0
  exact of_decide_eq_true h0.1
theorem sum_le {α : Type} (f : α → Nat) (B : Nat) : ∀ l : List α, (∀ x ∈ l, f x ≤ B) → (l.map f).sum ≤ l.length * B
  | [], _ => by simp
  | x :: l, h => by
    have := sum_le f B l fun y hy => h y (List.mem_cons_of_mem _ hy)
    have h2 := h x (List.mem_cons_self ..)
    rw [List.map_cons, List.sum_cons, List.length_cons, Nat.add_mul, Nat.one_mul]
    omega
theorem name_len {z : Str} (h : nameOk z = true) : z.length ≤ 8 := by
  unfold nameOk at h
  rw [Bool.and_eq_true] at h
  exact of_decide_eq_true h.1
theorem int_small {i : Int} (h0 : 0 ≤ i) (h1 : i ≤ 10 ^ 100) : i.natAbs.log2 < 1920 ∧ (Str.ofString (toString i)).length ≤ 102 := by
  have hn : i.natAbs < 10 ^ 101 := Nat.lt_of_le_of_lt (show i.natAbs ≤ 10 ^ 100 by omega) (by decide)
  constructor
  · have hb : i.natAbs < 2 ^ 1000 := Nat.lt_of_lt_of_le hn (by decide)
    by_cases h0 : i.natAbs = 0
    · rw [h0]; decide
    · exact Nat.lt_trans ((Nat.log2_lt h0).mpr hb) (by decide)
  · rw [PySem.ofString_length]
    exact int_text_length_le10 (k := 101) (by decide) hn
theorem len_app (a b : Str) : (a ++ b).length = a.length + b.length := by
  show (a ++ b).cps.size = a.cps.size + b.cps.size
  rw [← Array.length_toList, cps_app, List.length_append, Array.length_toList, Array.length_toList]
def entT (e : En) : Str := Str.empty ++ e.1 ++ Str.ofString ":" ++ Str.ofString (toString e.2)
def wordsL (b : Bool) (z : Int) (ns : List Str) (es : List En) : List Str := [kindS b, Str.ofString (toString z), Txt.join (Str.ofString ",") ns] ++ es.map entT
theorem join_len (y : Str) : ∀ l : List Str, (Txt.join y l).length ≤ (l.map fun x => x.length).sum + l.length * y.length
  | [] => by
    rw [TL.join_eq]
    rw [show (Str.join y []).length = 0 from rfl]
    exact Nat.zero_le _
  | [a] => by
    rw [TL.join_eq, show Str.join y [a] = a from rfl]
    simp
  | a :: b :: r => by
    have ih := join_len y (b :: r)
    rw [TL.join_eq] at ih ⊢
    rw [show Str.join y (a :: b :: r) = a ++ y ++ Str.join y (b :: r) from rfl, len_app, len_app, List.map_cons, List.sum_cons, List.length_cons, Nat.add_mul, Nat.one_mul]
    omega
theorem words_len {b : Bool} {z : Int} {ns : List Str} {es : List En} {w : Str} (hz : (Str.ofString (toString z)).length ≤ 102) (hn : ∀ n ∈ ns, n.length ≤ 8) (h12 : ns.length ≤ 12) (he : ∀ e ∈ es, (Str.ofString (toString e.2)).length ≤ 102) (hen : ∀ e ∈ es, e.1.length ≤ 8) (hw : w ∈ wordsL b z ns es) : w.length ≤ 2000 := by
  unfold wordsL at hw
  rcases List.mem_append.mp hw with h | h
  · simp only [List.mem_cons, List.not_mem_nil, or_false] at h
    rcases h with rfl | rfl | rfl
    · cases b <;> decide +kernel
    · omega
    · have := join_len (Str.ofString ",") ns
      have h2 := sum_le (fun x : Str => x.length) 8 ns hn
      rw [show (Str.ofString ",").length = 1 by decide +kernel] at this
      omega
  · obtain ⟨e, h1, rfl⟩ := List.mem_map.mp h
    unfold entT
    rw [len_app, len_app, len_app, show Str.empty.length = 0 by decide +kernel, show (Str.ofString ":").length = 1 by decide +kernel]
    have := he e h1
    have := hen e h1
    omega
theorem name_free {z : Str} (h : nameOk z = true) : ∀ c ∈ z.cps.toList, c ≠ 32 ∧ c ≠ 44 := by
  unfold nameOk at h
  rw [Bool.and_eq_true, Bool.and_eq_true, Bool.and_eq_true] at h
  have h2 := h.2.2.1
  unfold Txt.isalpha at h2
  rw [Bool.and_eq_true, ← Array.all_toList] at h2
  intro c hc
  have h3 := List.all_eq_true.mp h2.2 c hc
  constructor
  · rintro rfl
    exact absurd h3 (by decide +kernel)
  · rintro rfl
    exact absurd h3 (by decide +kernel)
theorem num_free {i : Int} (h0 : 0 ≤ i) {s : Nat} (h : s < 48 ∨ 57 < s) : s ∉ (Str.ofString (toString i)).cps.toList := by
  obtain ⟨n, rfl⟩ : ∃ n : Nat, i = (n : Int) := ⟨i.toNat, by omega⟩
  have := TL.tl_num n
  rw [show (Str.ofString (toString (n : Int))).cps.toList = TL.numL n from this]
  exact TL.numL_free h
theorem join_in (y : Str) : ∀ l : List Str, ∀ c ∈ (Txt.join y l).cps.toList, c ∈ y.cps.toList ∨ ∃ w ∈ l, c ∈ w.cps.toList
  | [], c, h => by
    rw [TL.join_eq] at h
    exact absurd h (by rw [show (Str.join y []).cps.toList = [] from rfl]; simp)
  | [a], c, h => by
    rw [TL.join_eq, show Str.join y [a] = a from rfl] at h
    exact .inr ⟨a, List.mem_singleton.mpr rfl, h⟩
  | a :: b :: r, c, h => by
    have ih := join_in y (b :: r) c
    rw [TL.join_eq] at ih h
    rw [show Str.join y (a :: b :: r) = a ++ y ++ Str.join y (b :: r) from rfl, cps_app, cps_app, List.mem_append, List.mem_append] at h
    rcases h with (h | h) | h
    · exact .inr ⟨a, List.mem_cons_self .., h⟩
    · exact .inl h
    · rcases ih h with g | ⟨w, hw, g⟩
      · exact .inl g
      · exact .inr ⟨w, List.mem_cons_of_mem _ hw, g⟩
theorem words_free {b : Bool} {z : Int} {ns : List Str} {es : List En} (hw : WF z ns es) : ∀ w ∈ wordsL b z ns es, 32 ∉ w.cps.toList := fun w h => by
  have pos := wf_pos hw
  have nf := fun n (hn : n ∈ ns) => name_free (hw.cr.ok n hn)
  unfold wordsL at h
  rcases List.mem_append.mp h with h | h
  · simp only [List.mem_cons, List.not_mem_nil, or_false] at h
    rcases h with rfl | rfl | rfl
    · cases b <;> decide +kernel
    · exact num_free (by have := hw.sz.1; omega) (by decide)
    · intro hc
      rcases join_in _ _ _ hc with g | ⟨n, hn, g⟩
      · exact absurd g (by decide +kernel)
      · exact (nf n hn _ g).1 rfl
  · obtain ⟨e, he, rfl⟩ := List.mem_map.mp h
    unfold entT
    rw [cps_app, cps_app, cps_app, List.mem_append, List.mem_append, List.mem_append]
    rintro (((g | g) | g) | g)
    · exact absurd g (by decide +kernel)
    · exact (nf e.1 (ens_nm hw.en e he) _ g).1 rfl
    · exact absurd g (by decide +kernel)
    · exact num_free (pos e he) (by decide) g
theorem words_split {b : Bool} {z : Int} {ns : List Str} {es : List En} (hw : WF z ns es) : Txt.split (Txt.join (Str.ofString " ") (wordsL b z ns es)) (Str.ofString " ") = wordsL b z ns es :=
  TL.split_join (s := 32) (S := []) (by decide +kernel) (by decide +kernel) (by unfold wordsL; simp) (words_free hw)
def sp_write_log (K : PySem.W.Frag) : Sp := fun vs H Q _ => ∃ (p : Addr) (b : Bool) (z : Int) (ns : List Str) (es : List En), vs = [.ref p] ∧ LogAt K H p b z ns es ∧ (∀ e ∈ es, e.2 ≤ 10 ^ 100) ∧ ∀ H', Same H H' → Q (.str (Txt.join (Str.ofString " ") (wordsL b z ns es))) H'
def sp_law_course (_ : PySem.W.Frag) : Sp := fun vs H Q _ => ∃ (fa L c : Addr) (z m : Int) (ns : List Str) (k : Nat), vs = [.ref fa, .int z, .ref c, .int m] ∧ UrnL k H fa L ∧ k ≤ 800000 ∧ SizeOk z ∧ CrewAt H c ns ∧ Crew ns ∧ 0 ≤ m ∧ m ≤ 60 ∧ ∀ s es tks held fr H', H s = none → StU fa L 600 H H' → EntsAt H' s es → Logic z m ns es tks held fr → fr ≤ m * (10 ^ 20 + 1) → Q (.ref s) H'
abbrev numT (i : Int) : Str := Str.ofString (toString i)
theorem num_tl {i : Int} (h0 : 0 ≤ i) : TL.tl (numT i) = TL.numL i.toNat := by
  obtain ⟨n, rfl⟩ : ∃ n : Nat, i = (n : Int) := ⟨i.toNat, by omega⟩
  exact TL.tl_num n
theorem num_len60 {i : Int} (h0 : 0 ≤ i) (h1 : i < 10 ^ 60) : 1 ≤ (numT i).length ∧ (numT i).length ≤ 60 := by
  rw [TL.len_tl, num_tl h0]
  refine ⟨?_, TL.numL_len (by decide) ?_⟩
  · have := TL.numL_ne i.toNat
    cases h : TL.numL i.toNat with
    | nil => exact absurd h this
    | cons a r => simp
  · have h2 : (10 : Int) ^ 60 = ((10 ^ 60 : Nat) : Int) := by decide +kernel
    omega
theorem num_dig {i : Int} (h0 : 0 ≤ i) : ∀ c ∈ (numT i).cps.toList, 48 ≤ c ∧ c ≤ 57 := fun c hc => by
  have h := TL.numL_digits i.toNat
  rw [← num_tl h0] at h
  exact h c hc
theorem num_ascii {i : Int} (h0 : 0 ≤ i) : Txt.isascii (numT i) = true := by
  unfold Txt.isascii
  rw [← Array.all_toList, List.all_eq_true]
  intro c hc
  have := num_dig h0 c hc
  exact decide_eq_true (by omega)
theorem num_isdigit {i : Int} (h0 : 0 ≤ i) (h1 : i < 10 ^ 60) : Txt.isdigit (numT i) = true := by
  unfold Txt.isdigit
  rw [Bool.and_eq_true]
  refine ⟨decide_eq_true (by have := (num_len60 h0 h1).1; omega), ?_⟩
  rw [← Array.all_toList, List.all_eq_true]
  intro c hc
  have h := num_dig h0 c hc
  have all : ∀ k : Nat, k < 10 → PySem.Unicode.isDigit (48 + k) = true := by decide +kernel
  have := all (c - 48) (by omega)
  rw [show 48 + (c - 48) = c by omega] at this
  exact this
theorem numL_head : ∀ n : Nat, 0 < n → ∃ c r, TL.numL n = c :: r ∧ c ≠ 48 := fun n => by
  induction n using Nat.strongRecOn with
  | _ n ih =>
    intro hn
    by_cases h : n < 10
    · rw [TL.numL_lt h]
      exact ⟨_, _, rfl, by omega⟩
    · obtain ⟨c, r, h1, h2⟩ := ih (n / 10) (by omega) (by omega)
      rw [TL.numL_step (by omega), h1]
      exact ⟨c, _, rfl, h2⟩
theorem num_zero {i : Int} (h0 : 0 ≤ i) : numT i = Str.ofString "0" ∨ Txt.startswith (numT i) (Str.ofString "0") = false := by
  by_cases h : i = 0
  · subst h
    exact .inl (by decide +kernel)
  · right
    obtain ⟨c, r, h1, h2⟩ := numL_head i.toNat (by omega)
    have ht : (numT i).cps.toList = c :: r := (num_tl h0).trans h1
    unfold Txt.startswith
    rw [PySem.StrLaws.subAt_eq, ht, show (Str.ofString "0").length = 1 by decide +kernel, show (Str.ofString "0").cps.toList = [48] by decide +kernel]
    rw [Bool.and_eq_false_iff]
    right
    show ([c] == [48]) = false
    rw [Bool.eq_false_iff]
    intro g
    have := eq_of_beq g
    simp at this
    exact h2 this
theorem num_int {i : Int} (h0 : 0 ≤ i) (h1 : i < 10 ^ 60) : PySem.intText? (numT i) = some i := by
  obtain ⟨n, rfl⟩ : ∃ n : Nat, i = (n : Int) := ⟨i.toNat, by omega⟩
  refine TL.int_num ?_
  have h2 : (10 : Int) ^ 60 = ((10 ^ 60 : Nat) : Int) := by decide +kernel
  have := TL.numL_len (n := n) (k := 60) (by decide) (by omega)
  omega
theorem str_nil_app (x : Str) : Str.empty ++ x = x := PySem.Str.empty_append x
theorem entT_eq (e : En) : entT e = e.1 ++ Str.ofString ":" ++ numT e.2 := by
  unfold entT
  rw [str_nil_app]
theorem name_colon {z : Str} (h : nameOk z = true) : 58 ∉ TL.tl z := fun hc => by
  unfold nameOk at h
  rw [Bool.and_eq_true, Bool.and_eq_true, Bool.and_eq_true] at h
  have h2 := h.2.2.1
  unfold Txt.isalpha at h2
  rw [Bool.and_eq_true, ← Array.all_toList] at h2
  exact absurd (List.all_eq_true.mp h2.2 58 hc) (by decide +kernel)
theorem ent_part {e : En} (h : nameOk e.1 = true) : Txt.partition (entT e) (Str.ofString ":") = (e.1, Str.ofString ":", numT e.2) := by
  rw [entT_eq]
  exact TL.partition_app (s := 58) (S := []) (by decide +kernel) (name_colon h)
theorem crew_split {ns : List Str} (h : Crew ns) : Txt.split (Txt.join (Str.ofString ",") ns) (Str.ofString ",") = ns :=
  TL.split_join (s := 44) (S := []) (by decide +kernel) (by decide +kernel) (fun g => by have := h.few.1; rw [g] at this; simp at this) fun n hn hc => (name_free (h.ok n hn) 44 hc).2 rfl
theorem ent_len {e : En} (hn : nameOk e.1 = true) (h0 : 0 ≤ e.2) (h1 : e.2 < 10 ^ 60) : (entT e).length ≤ 69 := by
  rw [entT_eq, len_app, len_app]
  have := name_len hn
  have := (num_len60 h0 h1).2
  have : (Str.ofString ":").length = 1 := by decide +kernel
  omega
/-- the entries' numbers have at most sixty digits -/
def Small (es : List En) : Prop := ∀ e ∈ es, e.2 < 10 ^ 60
def sp_is_number_text (_ : PySem.W.Frag) : Sp := fun vs H Q _ => ∃ i : Int, vs = [.str (numT i)] ∧ 0 ≤ i ∧ i < 10 ^ 60 ∧ Q (.bl true) H
def sp_is_entry_text (_ : PySem.W.Frag) : Sp := fun vs H Q _ => ∃ (c : Addr) (ns : List Str) (e : En), vs = [.ref c, .str (entT e)] ∧ CrewAt H c ns ∧ e.1 ∈ ns ∧ nameOk e.1 = true ∧ 0 ≤ e.2 ∧ e.2 < 10 ^ 60 ∧ ∀ H', Same H H' → Q (.bl true) H'
def sp_read_entry (_ : PySem.W.Frag) : Sp := fun vs H Q _ => ∃ e : En, vs = [.str (entT e)] ∧ nameOk e.1 = true ∧ 0 ≤ e.2 ∧ e.2 < 10 ^ 60 ∧ ∀ t H', H t = none → Same H H' → H' t = some (.tup [.str e.1, .int e.2]) → Q (.ref t) H'
def sp_stands_in_log (_ : PySem.W.Frag) : Sp := fun vs H Q _ => ∃ (a : Addr) (b : Bool) (z : Int) (ns : List Str) (es : List En) (i : Nat), vs = [.ref a, .int (i : Int)] ∧ H a = some (.lst ((wordsL b z ns es).map V.str)) ∧ WF z ns es ∧ Small es ∧ i < (wordsL b z ns es).length ∧ ∀ H', Same H H' → Q (.bl true) H'
def sp_check_words (K : PySem.W.Frag) : Sp := fun vs H Q _ => ∃ (a : Addr) (b : Bool) (z : Int) (ns : List Str) (es : List En), vs = [.ref a, .ref (He.ga K "stands_in_log")] ∧ H a = some (.lst ((wordsL b z ns es).map V.str)) ∧ WF z ns es ∧ Small es ∧ ∀ H', Same H H' → Q .non H'
def sp_read_log (K : PySem.W.Frag) : Sp := fun vs H Q _ => ∃ (b : Bool) (z : Int) (ns : List Str) (es : List En), vs = [.str (Txt.join (Str.ofString " ") (wordsL b z ns es))] ∧ WF z ns es ∧ Small es ∧ NewLog K H Q b z ns es
theorem wordsL_len (b : Bool) (z : Int) (ns : List Str) (es : List En) : (wordsL b z ns es).length = 3 + es.length := by
  unfold wordsL
  rw [List.length_append, List.length_map]
  rfl
theorem join_len60 {b : Bool} {z : Int} {ns : List Str} {es : List En} (hw : WF z ns es) (hs : Small es) : (Txt.join (Str.ofString " ") (wordsL b z ns es)).length ≤ 60000 := by
  have pos := wf_pos hw
  have h1 := join_len (Str.ofString " ") (wordsL b z ns es)
  have h2 := sum_le (fun x : Str => x.length) 200 (wordsL b z ns es) fun w hm => by
    unfold wordsL at hm
    rcases List.mem_append.mp hm with h | h
    · simp only [List.mem_cons, List.not_mem_nil, or_false] at h
      rcases h with rfl | rfl | rfl
      · cases b <;> decide +kernel
      · have := (num_len60 (i := z) (by have := hw.sz.1; omega) (Int.lt_of_le_of_lt hw.sz.2 (by decide +kernel))).2
        show (numT z).length ≤ 200
        omega
      · have h3 := join_len (Str.ofString ",") ns
        have h4 := sum_le (fun x : Str => x.length) 8 ns fun n hn => name_len (hw.cr.ok n hn)
        have h5 : (Str.ofString ",").length = 1 := by decide +kernel
        have := hw.cr.few.2
        rw [h5] at h3
        omega
    · obtain ⟨e, he, rfl⟩ := List.mem_map.mp h
      have := ent_len (hw.cr.ok e.1 (ens_nm hw.en e he)) (pos e he) (hs e he)
      omega
  have h3 : (Str.ofString " ").length = 1 := by decide +kernel
  have h4 := wordsL_len b z ns es
  have h5 := hw.en.few
  rw [h3, h4] at h1
  rw [h4] at h2
  omega

def gV_write_log : List V → List V → List V := z1 fun b => [b]
def gV_read_log : List V → List V → List V := z1 fun b => [b]
def sp_law (K : PySem.W.Frag) : Sp := fun vs H Q _ => ∃ (a : Addr) (xs : List Int), vs = [.ref a] ∧ SqL K H a (xs.map V.int) ∧ xs.length ≤ 63 ∧ ∀ H', Q (.bl true) H'
def sp_law_rows (_ : PySem.W.Frag) : Sp := fun vs H Q _ => ∃ (fa L c : Addr) (m : Int) (ns : List Str) (k : Nat), vs = [.ref fa, .ref c, .int m] ∧ UrnL k H fa L ∧ k ≤ 900000 ∧ CrewAt H c ns ∧ Crew ns ∧ 0 ≤ m ∧ m ≤ 200 ∧ ∀ s es H', H s = none → StU fa L 900 H H' → EntsAt H' s es → (es.length : Int) ≤ m → (∀ e ∈ es, e.1 ∈ ns ∧ 0 ≤ e.2) → Small es → Q (.ref s) H'
def sp_law_text (K : PySem.W.Frag) : Sp := fun vs H Q _ => ∃ (b : Bool) (z : Int) (c s : Addr) (ns : List Str) (es : List En), vs = [.int z, .ref c, .ref s, .bl b] ∧ WF z ns es ∧ Small es ∧ CrewAt H c ns ∧ EntsAt H s es ∧ ∀ H', Same H H' → Q (.str (Txt.join (Str.ofString " ") (wordsL b z ns es))) H'
def sp_law_right (K : PySem.W.Frag) : Sp := fun vs H Q _ => ∃ (b : Bool) (z : Int) (c s : Addr) (ns : List Str) (es : List En), vs = [.int z, .ref c, .ref s, .bl b] ∧ WF z ns es ∧ Small es ∧ CrewAt H c ns ∧ EntsAt H s es ∧ ∀ H', Same H H' → Q (.bl true) H'
theorem chars_ok {b : Bool} {z : Int} {ns : List Str} {es : List En} (hw : WF z ns es) : ∀ w ∈ wordsL b z ns es, ∀ c ∈ w.cps.toList, c < 128 := fun w h c hc => by
  have pos := wf_pos hw
  have nm : ∀ n, nameOk n = true → ∀ c ∈ n.cps.toList, c < 128 := fun n hn c hc => by
    unfold nameOk at hn
    rw [Bool.and_eq_true, Bool.and_eq_true, Bool.and_eq_true] at hn
    have h2 := hn.2.1
    unfold Txt.isascii at h2
    rw [← Array.all_toList, List.all_eq_true] at h2
    exact of_decide_eq_true (h2 c hc)
  have nu : ∀ i : Int, 0 ≤ i → ∀ c ∈ (numT i).cps.toList, c < 128 := fun i h0 c hc => by
    have := num_dig h0 c hc
    omega
  unfold wordsL at h
  rcases List.mem_append.mp h with h | h
  · simp only [List.mem_cons, List.not_mem_nil, or_false] at h
    rcases h with rfl | rfl | rfl
    · have : ∀ b : Bool, ∀ c ∈ (kindS b).cps.toList, c < 128 := by decide +kernel
      exact this b c hc
    · exact nu z (by have := hw.sz.1; omega) c hc
    · rcases join_in _ _ _ hc with g | ⟨n, hn, g⟩
      · have : ∀ c ∈ (Str.ofString ",").cps.toList, c < 128 := by decide +kernel
        exact this c g
      · exact nm n (hw.cr.ok n hn) c g
  · obtain ⟨e, he, rfl⟩ := List.mem_map.mp h
    rw [entT_eq, cps_app, cps_app, List.mem_append, List.mem_append] at hc
    rcases hc with (g | g) | g
    · exact nm e.1 (hw.cr.ok e.1 (ens_nm hw.en e he)) c g
    · have : ∀ c ∈ (Str.ofString ":").cps.toList, c < 128 := by decide +kernel
      exact this c g
    · exact nu e.2 (pos e he) c g
theorem join_ok {b : Bool} {z : Int} {ns : List Str} {es : List En} (hw : WF z ns es) : PyData.strOk (Txt.join (Str.ofString " ") (wordsL b z ns es)) = true := by
  show (Txt.join (Str.ofString " ") (wordsL b z ns es)).cps.all (fun c => decide (c < 0x110000)) = true
  rw [← Array.all_toList, List.all_eq_true]
  intro c hc
  refine decide_eq_true (Nat.lt_of_lt_of_le (m := 128) ?_ (by decide))
  rcases join_in _ _ _ hc with g | ⟨w, hw', g⟩
  · have : ∀ c ∈ (Str.ofString " ").cps.toList, c < 128 := by decide +kernel
    exact this c g
  · exact chars_ok hw w hw' c g
def fixE : List En := [(Str.ofString "ann", 5), (Str.ofString "bob", 230)]
theorem fix_wf : WF 100 [Str.ofString "ann", Str.ofString "bob"] fixE := ⟨⟨by decide, by decide +kernel⟩, ⟨by decide +kernel, by decide +kernel, by decide +kernel⟩, ⟨by decide +kernel, by decide +kernel⟩⟩
theorem fix_text : Txt.join (Str.ofString " ") (wordsL false 100 [Str.ofString "ann", Str.ofString "bob"] fixE) = Str.ofString "steady 100 ann,bob ann:5 bob:230" := by decide +kernel
theorem fix_text2 : Txt.join (Str.ofString " ") (wordsL true 1 [Str.ofString "a"] []) = Str.ofString "losing 1 a" := by decide +kernel
theorem small100 {es : List En} (h : Small es) : ∀ e ∈ es, e.2 ≤ 10 ^ 100 := fun e he => Int.le_trans (Int.le_of_lt (h e he)) (by decide +kernel)
structure Txt (K : PySem.W.Frag) (mg : Str → Option Value) : Prop where
  n_len : mg "len" = none
  n_max : mg "max" = none
  n_min : mg "min" = none
  n_abs : mg "abs" = none
  n_int : mg "int" = none
  n_bool : mg "bool" = none
  n_str : mg "str" = none
  n_list : mg "list" = none
  n_tuple : mg "tuple" = none
  n_dict : mg "dict" = none
  n_isinstance : mg "isinstance" = none
  n_all : mg "all" = none
  n_any : mg "any" = none
  n_repr : mg "repr" = none
  n_range : mg "range" = none
  n_enumerate : mg "enumerate" = none
  n_zip : mg "zip" = none
  n_sorted : mg "sorted" = none
  n_set : mg "set" = none
  n_sum : mg "sum" = none
  n_reversed : mg "reversed" = none
  g_GREATEST_SIZE : ∃ u, mg "GREATEST_SIZE" = some u ∧ RelV (.int 1000000000000000000000000000000) u
  g_MOST_SERVERS : ∃ u, mg "MOST_SERVERS" = some u ∧ RelV (.int 12) u
  g_MOST_LETTERS : ∃ u, mg "MOST_LETTERS" = some u ∧ RelV (.int 8) u
  g_MOST_ENTRIES : ∃ u, mg "MOST_ENTRIES" = some u ∧ RelV (.int 200) u
  g_MOST_DIGITS : ∃ u, mg "MOST_DIGITS" = some u ∧ RelV (.int 60) u
  g_HEAD_WORDS : ∃ u, mg "HEAD_WORDS" = some u ∧ RelV (.int 3) u
  g_BookError : ∃ u, mg "BookError" = some u ∧ RelV (.ref (He.ga K "BookError")) u
  g_InvalidSize : ∃ u, mg "InvalidSize" = some u ∧ RelV (.ref (He.ga K "InvalidSize")) u
  g_InvalidServers : ∃ u, mg "InvalidServers" = some u ∧ RelV (.ref (He.ga K "InvalidServers")) u
  g_InvalidEntries : ∃ u, mg "InvalidEntries" = some u ∧ RelV (.ref (He.ga K "InvalidEntries")) u
  g_InvalidLog : ∃ u, mg "InvalidLog" = some u ∧ RelV (.ref (He.ga K "InvalidLog")) u
  g_InvalidText : ∃ u, mg "InvalidText" = some u ∧ RelV (.ref (He.ga K "InvalidText")) u
  g_Log : ∃ u, mg "Log" = some u ∧ RelV (.ref (He.ga K "Log")) u
  g_LosingLog : ∃ u, mg "LosingLog" = some u ∧ RelV (.ref (He.ga K "LosingLog")) u
  g_stands_in_log : ∃ u, mg "stands_in_log" = some u ∧ RelV (.ref (He.ga K "stands_in_log")) u
  x_InvalidLog : NbX.ExcF K mg "InvalidLog"
  lf : LF K
  m_Log_init : Met2 K (C2 K) "__init__" (d_Log_init.way K)
  m_Log_len : Met2 K (C2 K) "__len__" (d_Log_len.way K)
  m_Log_add : Met2 K (C2 K) "__add__" (d_Log_add.way K)
  m_Log_eq : Met2 K (C2 K) "__eq__" (d_Log_eq.way K)
  m_Log_contains : Met2 K (C2 K) "__contains__" (d_Log_contains.way K)
  m_Log_is_alike : Met2 K (C2 K) "_is_alike" (d_Log_is_alike.way K)
  p_size : Prp2 K (C2 K) "size" (d_Log_size.way K)
  p_servers : Prp2 K (C2 K) "servers" (d_Log_servers.way K)
  p_entries : Prp2 K (C2 K) "entries" (d_Log_entries.way K)
  add2 : NbX.Add2 K (C2 K) (He.ma K (CL K) "__add__")
  k_Log : Mk K (He.ga K "Log") (He.ma K (He.ga K "Log") "__init__")
  k_LosingLog : Mk K (He.ga K "LosingLog") (He.ma K (He.ga K "Log") "__init__")
  two : TwoOk K (C2 K) (d_Log_eq.way K)
section
variable {P : Program} {w : World} {K : PySem.W.Frag} {mg : Str → Option Value} {base : Heap}
theorem ok_is_integer {f : Addr} {fd : FuncData} (F : d_is_integer.Is K f fd) (T : Txt K mg) :
    FnOk P w K mg base CX0 1 f fd ["thing"] (sp_is_integer K) := by
  refine F.ok sc_is_integer (fun vs H Q E h => ?_) (fun cdv A outer s H vs Q E hr h => ?_)
  · obtain ⟨x, d, rfl, k, q⟩ := h
    rfl
  · obtain ⟨x, d, rfl, k, q⟩ := h
    refine ⟨_, PSs.nox (pss_one (ps_ret (pe_and (pe_callB call_isi (by rfl) T.n_isinstance (by decide +kernel) (pa_cons (pv 0) (pa_cons (pe_bltn (v := .ty "int") (by rfl) T.n_int (by decide +kernel) rfl) pa_nil))) (pe_one (pe_not (pe_callB call_isi (by rfl) T.n_isinstance (by decide +kernel) (pa_cons (pv 0) (pa_cons (pe_bltn (v := .ty "bool") (by rfl) T.n_bool (by decide +kernel) rfl) pa_nil)))))))), ?_⟩
    walk_at "rd"
    refine isi_b T.lf k (.inl rfl) ⟨_, rfl, ite2 (fun e => isi_b T.lf k (.inr (.inl rfl)) ⟨_, rfl, ?_⟩) (fun e => ?_)⟩
    · cases d with
      | log b => exact absurd e (by cases b <;> decide +kernel)
      | _ => first | exact q | exact absurd e (by decide +kernel)
    · cases d with
      | log b => exact q
      | _ => first | exact q | exact absurd (by decide +kernel) e
theorem ok_is_natural {f : Addr} {fd : FuncData} (F : d_is_natural.Is K f fd) (T : Txt K mg)
    (c_is_integer : C8.Cal P w K mg base 1 "is_integer" (sp_is_integer K) []) :
    FnOk P w K mg base CX0 2 f fd ["thing"] (sp_is_natural K) := by
  refine F.ok sc_is_natural (fun vs H Q E h => ?_) (fun cdv A outer s H vs Q E hr h => ?_)
  · obtain ⟨x, d, rfl, k, q⟩ := h
    rfl
  · obtain ⟨x, d, rfl, k, q⟩ := h
    refine ⟨_, PSs.nox (pss_one (ps_ret (pe_and (C8.pe_c c_is_integer hr (by decide) (by rfl) (pa_cons (pv 0) pa_nil)) (pe_one (pe_cmpR op_ge (pv 0) pe_int (nomark _)))))), ?_⟩
    walk_at "rd"
    refine ⟨x, d, rfl, k, _, rfl, ite2 (fun e => ?_) (fun e => ?_)⟩
    · cases k <;> first | exact ⟨_, rfl, q⟩ | exact absurd e (by simp)
    · cases k <;> first | exact q | exact absurd (by simp) e
theorem ok_is_size {f : Addr} {fd : FuncData} (F : d_is_size.Is K f fd) (T : Txt K mg)
    (c_is_integer : C8.Cal P w K mg base 1 "is_integer" (sp_is_integer K) []) :
    FnOk P w K mg base CX0 2 f fd ["thing"] (sp_is_size K) := by
  refine F.ok sc_is_size (fun vs H Q E h => ?_) (fun cdv A outer s H vs Q E hr h => ?_)
  · obtain ⟨x, d, rfl, k, q⟩ := h
    rfl
  · obtain ⟨x, d, rfl, k, q⟩ := h
    refine ⟨_, PSs.nox (pss_one (ps_ret (pe_and (C8.pe_c c_is_integer hr (by decide) (by rfl) (pa_cons (pv 0) pa_nil)) (pe_one (pe_chain op_le op_le pe_int (pv 0) (C8.pe_gc (by rfl) T.g_GREATEST_SIZE)))))), ?_⟩
    walk_at "rd"
    refine ⟨x, d, rfl, k, _, rfl, ?_⟩
    cases k with
    | int i =>
      refine ifP (by decide) ⟨i, rfl, ite2 (fun h => ⟨i, rfl, ?_⟩) (fun h => ?_)⟩
      · have e1 : sizeV (.int i) = decide (i ≤ 1000000000000000000000000000000) := by
          show (decide (1 ≤ i) && decide (i ≤ 10 ^ 30)) = _
          rw [decide_eq_true h]
          rfl
        rw [← e1]
        exact q
      · have e1 : sizeV (.int i) = false := by
          show (decide (1 ≤ i) && decide (i ≤ 10 ^ 30)) = _
          rw [decide_eq_false h]
          rfl
        rw [← e1]
        exact q
    | log => exact ifN (by simp) q
    | _ => exact ifN (by decide) q
theorem ok_is_name {f : Addr} {fd : FuncData} (F : d_is_name.Is K f fd) (T : Txt K mg) :
    FnOk P w K mg base CX0 1 f fd ["thing"] (sp_is_name K) := by
  refine F.ok sc_is_name (fun vs H Q E h => ?_) (fun cdv A outer s H vs Q E hr h => ?_)
  · obtain ⟨z, rfl, hl, q⟩ := h
    rfl
  · obtain ⟨z, rfl, hl, q⟩ := h
    refine ⟨_, PSs.nox (pss_cons (ps_if (PW.pt (pw_or (pt_not (pt_val (pe_callB call_isi (by rfl) T.n_isinstance (by decide +kernel) (pa_cons (pv 0) (pa_cons (pe_bltn (v := .ty "str") (by rfl) T.n_str (by decide +kernel) rfl) pa_nil))))) (pw_or1 (pt_cmpR op_gt (pe_callB call_len_str (by rfl) T.n_len (by decide +kernel) (pa_cons (pv 0) pa_nil)) (C8.pe_gc (by rfl) T.g_MOST_LETTERS) (nomark _)))))
          (pss_one (ps_ret pe_bl))
          pss_nil)
        (pss_one (ps_ret (pe_and (pe_bm0 PySem.F.plainAttrs_str PySem.F.slot_str_isascii PySem.F.type_str_isascii mt_isascii (pv 0)) (pe_and (pe_bm0 PySem.F.plainAttrs_str PySem.F.slot_str_isalpha PySem.F.type_str_isalpha mt_isalpha (pv 0)) (pe_one (pe_bm0 PySem.F.plainAttrs_str PySem.F.slot_str_islower PySem.F.type_str_islower mt_islower (pv 0)))))))), ?_⟩
    walk_at "rd"
    refine isi_b T.lf (.str z) (.inr (.inr (.inl rfl))) ⟨_, rfl, ifN (by decide +kernel) ⟨hl, ite2 (fun e => ?_) (fun e => ?_)⟩⟩
    · rw [name_no (by omega)] at q
      exact q
    · unfold nameOk at q
      rw [decide_eq_true (show z.length ≤ 8 by omega)] at q
      cases h1 : Txt.isascii z with
      | false =>
        rw [h1] at q
        exact ⟨rfl, iteF q⟩
      | true =>
        rw [h1] at q
        refine ⟨rfl, iteT ⟨rfl, ?_⟩⟩
        cases h2 : Txt.isalpha z with
        | false =>
          rw [h2] at q
          exact iteF q
        | true =>
          rw [h2] at q
          exact iteT ⟨rfl, q⟩
theorem ok_are_servers {f : Addr} {fd : FuncData} (F : d_are_servers.Is K f fd) (T : Txt K mg)
    (c_is_name : C8.Cal P w K mg base 1 "is_name" (sp_is_name K) []) :
    FnOk P w K mg base CX0 2 f fd ["thing"] (sp_are_servers K) := by
  refine F.ok sc_are_servers (fun vs H Q E h => ?_) (fun cdv A outer s H vs Q E hr h => ?_)
  · obtain ⟨c, ns, rfl, hc, g, q⟩ := h
    rfl
  · obtain ⟨c, ns, rfl, hc, g, q⟩ := h
    refine ⟨_, PSs.nox (pss_cons (ps_if (PW.pt (pw_or (pt_not (pt_val (pe_callB call_isi (by rfl) T.n_isinstance (by decide +kernel) (pa_cons (pv 0) (pa_cons (pe_bltn (v := .ty "list") (by rfl) T.n_list (by decide +kernel) rfl) pa_nil))))) (pw_or1 (pt_not (pt_chain op_le op_le pe_int (pe_callB call_len_seq (by rfl) T.n_len (by decide +kernel) (pa_cons (pv 0) pa_nil)) (C8.pe_gc (by rfl) T.g_MOST_SERVERS))))))
          (pss_one (ps_ret pe_bl))
          pss_nil)
        (pss_one (ps_ret (pe_and (pe_callB (cr_all rfl) (by rfl) T.n_all (by decide +kernel) (pa_cons (pe_lc (own := [("name", 1)]) (g := gName 1) (tt := tYes) (by rfl) sc_are_servers.nd (pi_list (pv 0)) (blkOk_by (N := ["thing", "name"]) (sc := defScope s_are_servers) (by decide +kernel)) (fun _ _ _ _ _ => (pg_name (i := 1) sc_are_servers.nd rfl (Or.inl rfl))) (fun _ _ _ _ _ => pts_nil) (fun _ _ _ _ _ => (C8.pe_c c_is_name hr (by decide) (by rfl) (pa_cons (pv 1) pa_nil)))) pa_nil)) (pe_one (pe_cmpR op_eq (pe_lenSetS rfl (by rfl) T.n_len (by rfl) T.n_set (pv 0)) (pe_callB call_len_seq (by rfl) T.n_len (by decide +kernel) (pa_cons (pv 0) pa_nil)) (nomark _))))))), ?_⟩
    walk_at "rd"
    refine isi_b T.lf (.lst hc) (.inr (.inr (.inr (.inl rfl)))) ⟨_, rfl, ifN (by decide +kernel) ⟨_, .inl (CrewAt.sq hc), ?_⟩⟩
    have hl := g.few
    refine ifP (by rw [List.length_map]; omega) (ifN (by rw [List.length_map]; omega) ⟨⟨_, CrewAt.sq hc⟩, fun L hL => ?_⟩)
    refine comp_list (ns.map V.str) (fun i H' => Same H H' ∧ H' L = some (.lst ((List.replicate i true).map V.bl))) ⟨Same.new (Same.refl _) hL, upd_same⟩ (fun i H' _ z => SqL.of (z.1 _ _ hc)) ?_ ?_
    · rintro i x H' hi ⟨e, h1⟩
      rw [List.getElem?_map] at hi
      obtain ⟨z, hz, rfl⟩ := Option.map_eq_some_iff.mp hi
      walk_at "rd"
      have hm := List.mem_of_getElem? hz
      have hn := g.ok z hm
      have h8 : z.length ≤ 8 := by
        unfold nameOk at hn
        simp only [Bool.and_eq_true, decide_eq_true_eq] at hn
        exact hn.1
      have hlt := (List.getElem?_eq_some_iff.mp hz).1
      refine ⟨z, rfl, sz_le (by omega), _, h1, sz_lt (by rw [List.length_map, List.length_replicate]; omega), Nb.Same.mut e hL, ?_⟩
      rw [upd_same, hn, rep_snoc]
      rfl
    · rintro H' ⟨e, h1⟩
      refine rall h1 ⟨_, rfl, ifP (all_rep _) ⟨ns, CrewAt.sq (e _ _ hc), g.nd, by omega, _, .inl (CrewAt.sq (e _ _ hc)), ?_⟩⟩
      exact eq_int (by rw [List.length_map, decide_eq_true rfl]; exact q _ e)
theorem ok_is_server {f : Addr} {fd : FuncData} (F : d_is_server.Is K f fd) (T : Txt K mg) :
    FnOk P w K mg base CX0 1 f fd ["servers", "thing"] (sp_is_server K) := by
  refine F.ok sc_is_server (fun vs H Q E h => ?_) (fun cdv A outer s H vs Q E hr h => ?_)
  · obtain ⟨c, ns, x, d, rfl, hc, k, q⟩ := h
    rfl
  · obtain ⟨c, ns, x, d, rfl, hc, k, q⟩ := h
    refine ⟨_, PSs.nox (pss_one (ps_ret (pe_and (pe_callB call_isi (by rfl) T.n_isinstance (by decide +kernel) (pa_cons (pv 1) (pa_cons (pe_bltn (v := .ty "str") (by rfl) T.n_str (by decide +kernel) rfl) pa_nil))) (pe_one (pe_cmpR op_in_seq (pv 1) (pv 0) (by rfl)))))), ?_⟩
    walk_at "rd"
    refine isi_b T.lf k (.inr (.inr (.inl rfl))) ⟨_, rfl, ?_⟩
    cases k with
    | str z => exact iteT (in_crew hc q)
    | @log a dx los fs e => cases los <;> exact iteF q
    | _ => exact iteF q
theorem ok_is_entry {f : Addr} {fd : FuncData} (F : d_is_entry.Is K f fd) (T : Txt K mg)
    (c_is_server : C8.Cal P w K mg base 1 "is_server" (sp_is_server K) [])
    (c_is_natural : C8.Cal P w K mg base 2 "is_natural" (sp_is_natural K) []) :
    FnOk P w K mg base CX0 3 f fd ["servers", "thing"] (sp_is_entry K) := by
  refine F.ok sc_is_entry (fun vs H Q E h => ?_) (fun cdv A outer s H vs Q E hr h => ?_)
  · obtain ⟨c, ns, x, rfl, hc, h⟩ := h
    rfl
  · obtain ⟨c, ns, x, rfl, hc, h⟩ := h
    refine ⟨_, PSs.nox (pss_cons (ps_if (PW.pt (pw_or (pt_not (pt_val (pe_callB call_isi (by rfl) T.n_isinstance (by decide +kernel) (pa_cons (pv 1) (pa_cons (pe_bltn (v := .ty "tuple") (by rfl) T.n_tuple (by decide +kernel) rfl) pa_nil))))) (pw_or1 (pt_cmpR op_ne (pe_callB call_len_seq (by rfl) T.n_len (by decide +kernel) (pa_cons (pv 1) pa_nil)) pe_int (nomark _)))))
          (pss_one (ps_ret pe_bl))
          pss_nil)
        (pss_cons (ps_asg (pv 1) (pg_tup (by rfl) (pgs_cons (pg_name (i := 2) sc_is_entry.nd rfl (Or.inl rfl)) (pgs_cons (pg_name (i := 3) sc_is_entry.nd rfl (Or.inl rfl)) pgs_nil))))
        (pss_one (ps_ret (pe_and (C8.pe_c c_is_server hr (by decide) (by rfl) (pa_cons (pv 0) (pa_cons (pv 2) pa_nil))) (pe_one (C8.pe_c c_is_natural hr (by decide) (by rfl) (pa_cons (pv 3) pa_nil)))))))), ?_⟩
    rcases h with ⟨⟨d, k, h⟩, q⟩ | ⟨t, e, rfl, ht, q⟩
    · rcases h with h | ⟨t, xs, rfl, ht, h⟩
      · walk_at "rd"
        refine isi_b T.lf k (.inr (.inr (.inr (.inr rfl)))) ⟨_, rfl, ifP ?_ q⟩
        cases d with
        | tup => exact absurd rfl h
        | log b => cases b <;> decide +kernel
        | _ => decide +kernel
      · walk_at "rd"
        refine isi_b T.lf (.tup ht) (.inr (.inr (.inr (.inr rfl)))) ⟨_, rfl, ifN (by decide +kernel) ?_⟩
        rcases h with h | ⟨v1, v2, d1, d2, rfl, k1, k2, h⟩
        · exact ⟨_, .inr (.inl (.inl ht)), rfl, _, rfl, ifP (by simp; omega) q⟩
        · refine ⟨_, .inr (.inl (.inl ht)), rfl, _, rfl, ifN (by simp) ⟨_, .inl (.inl ht), rfl, _, _, rfl, _, _, rfl, rfl, ?_⟩⟩
          refine ⟨c, ns, v1, d1, rfl, hc, k1, _, rfl, ite2 (fun h1 => ⟨v2, d2, rfl, k2, ?_⟩) (fun h1 => ?_)⟩
          · have n1 : d1 = .str := by
              cases k1 <;> first | rfl | cases h1
            have n2 : natV v2 = false := by
              have := h.resolve_left (fun g => g n1)
              cases k2 <;> first | rfl | exact absurd rfl this
            rw [n2]
            exact q
          · exact q
    · walk_at "rd"
      refine isi_b T.lf (.tup ht) (.inr (.inr (.inr (.inr rfl)))) ⟨_, rfl, ifN (by decide +kernel) ⟨_, .inr (.inl (.inl ht)), rfl, _, rfl, ifN (by simp) ⟨_, .inl (.inl ht), rfl, _, _, rfl, _, _, rfl, rfl, ?_⟩⟩⟩
      refine ⟨c, ns, _, _, rfl, hc, .str e.1, _, rfl, ite2 (fun h => ⟨_, _, rfl, .int e.2, ?_⟩) (fun h => ?_)⟩
      · unfold enOk at q
        rw [show decide (e.1 ∈ ns) = true from h] at q
        exact q
      · unfold enOk at q
        rw [show decide (e.1 ∈ ns) = false from Bool.eq_false_iff.mpr h] at q
        exact q
theorem ok_check_size {f : Addr} {fd : FuncData} (F : d_check_size.Is K f fd) (T : Txt K mg)
    (c_is_size : C8.Cal P w K mg base 2 "is_size" (sp_is_size K) []) :
    FnOk P w K mg base CX0 3 f fd ["size"] (sp_check_size K) := by
  refine F.ok sc_check_size (fun vs H Q E h => ?_) (fun cdv A outer s H vs Q E hr h => ?_)
  · obtain ⟨z, rfl, ⟨h1, h2⟩, q⟩ := h
    rfl
  · obtain ⟨z, rfl, ⟨h1, h2⟩, q⟩ := h
    refine ⟨_, PSs.nox (pss_one (ps_if (pt_not (pt_val (C8.pe_c c_is_size hr (by decide) (by rfl) (pa_cons (pv 0) pa_nil))))
          (pss_one ps_never)
          pss_nil)), ?_⟩
    walk_at "rd"
    refine ⟨_, _, rfl, .int z, _, rfl, ifN ?_ q⟩
    have e1 : sizeV (.int z) = true := by
      show (decide (1 ≤ z) && decide (z ≤ 10 ^ 30)) = _
      rw [decide_eq_true h1, decide_eq_true h2]
      rfl
    rw [e1]
    decide
theorem ok_check_servers {f : Addr} {fd : FuncData} (F : d_check_servers.Is K f fd) (T : Txt K mg)
    (c_are_servers : C8.Cal P w K mg base 2 "are_servers" (sp_are_servers K) []) :
    FnOk P w K mg base CX0 3 f fd ["servers"] (sp_check_servers K) := by
  refine F.ok sc_check_servers (fun vs H Q E h => ?_) (fun cdv A outer s H vs Q E hr h => ?_)
  · obtain ⟨c, ns, rfl, hc, g, q⟩ := h
    rfl
  · obtain ⟨c, ns, rfl, hc, g, q⟩ := h
    refine ⟨_, PSs.nox (pss_one (ps_if (pt_not (pt_val (C8.pe_c c_are_servers hr (by decide) (by rfl) (pa_cons (pv 0) pa_nil))))
          (pss_one ps_never)
          pss_nil)), ?_⟩
    walk_at "rd"
    exact ⟨c, ns, rfl, hc, g, fun H' e => ⟨_, rfl, ifN (by decide) (q _ e)⟩⟩
theorem ok_check_entries {f : Addr} {fd : FuncData} (F : d_check_entries.Is K f fd) (T : Txt K mg)
    (c_is_entry : C8.Cal P w K mg base 3 "is_entry" (sp_is_entry K) []) :
    FnOk P w K mg base CX0 4 f fd ["servers", "entries"] (sp_check_entries K) := by
  refine F.ok sc_check_entries (fun vs H Q E h => ?_) (fun cdv A outer s H vs Q E hr h => ?_)
  · obtain ⟨c, s', ns, es, rfl, hc, ⟨ts, hs, he⟩, g, q⟩ := h
    rfl
  · obtain ⟨c, s', ns, es, rfl, hc, ⟨ts, hs, he⟩, g, q⟩ := h
    refine ⟨_, PSs.nox (pss_cons (ps_if (PW.pt (pw_or (pt_not (pt_val (pe_callB call_isi (by rfl) T.n_isinstance (by decide +kernel) (pa_cons (pv 1) (pa_cons (pe_bltn (v := .ty "list") (by rfl) T.n_list (by decide +kernel) rfl) pa_nil))))) (pw_or1 (pt_cmpR op_gt (pe_callB call_len_seq (by rfl) T.n_len (by decide +kernel) (pa_cons (pv 1) pa_nil)) (C8.pe_gc (by rfl) T.g_MOST_ENTRIES) (nomark _)))))
          (pss_one ps_never)
          pss_nil)
        (pss_one (ps_if (pt_not (pt_val (pe_callB (cr_all rfl) (by rfl) T.n_all (by decide +kernel) (pa_cons (pe_lc (own := [("entry", 2)]) (g := gName 2) (tt := tYes) (by rfl) sc_check_entries.nd (pi_list (pv 1)) (blkOk_by (N := ["servers", "entries", "entry"]) (sc := defScope s_check_entries) (by decide +kernel)) (fun _ _ _ _ _ => (pg_name (i := 2) sc_check_entries.nd rfl (Or.inl rfl))) (fun _ _ _ _ _ => pts_nil) (fun _ _ _ _ _ => (C8.pe_c c_is_entry hr (by decide) (by rfl) (pa_cons (pv 0) (pa_cons (pv 2) pa_nil))))) pa_nil))))
          (pss_one ps_never)
          pss_nil))), ?_⟩
    walk_at "rd"
    have hl := g.few
    have hn := he.len
    refine isi_b T.lf (.lst hs) (.inr (.inr (.inr (.inl rfl)))) ⟨_, rfl, ifN (by decide +kernel) ⟨_, .inl (SqL.of hs), ifN (by rw [List.length_map]; omega) ⟨⟨_, SqL.of hs⟩, fun L hL => ?_⟩⟩⟩
    refine comp_list (ts.map V.ref) (fun i H' => Same H H' ∧ H' L = some (.lst ((List.replicate i true).map V.bl))) ⟨Same.new (Same.refl _) hL, upd_same⟩ (fun i H' _ z => SqL.of (z.1 _ _ hs)) ?_ ?_
    · rintro i x H' hi ⟨e, h1⟩
      rw [List.getElem?_map] at hi
      obtain ⟨t, ht, rfl⟩ := Option.map_eq_some_iff.mp hi
      walk_at "rd"
      obtain ⟨en, g1, g2⟩ := he.get ht
      have hlt := (List.getElem?_eq_some_iff.mp ht).1
      refine ⟨c, ns, _, rfl, hc.same e, .inr ⟨t, en, rfl, e _ _ g2, _, h1, sz_lt (by rw [List.length_map, List.length_replicate]; omega), Nb.Same.mut e hL, ?_⟩⟩
      rw [upd_same, g.ok en (List.mem_of_getElem? g1), rep_snoc]
      rfl
    · rintro H' ⟨e, h1⟩
      exact rall h1 ⟨_, rfl, ifN (by rw [all_rep]; decide) (q _ e)⟩
theorem ok_Log_init {f : Addr} {fd : FuncData} (F : d_Log_init.Is K f fd) (T : Txt K mg)
    (c_check_size : C8.Cal P w K mg base 3 "check_size" (sp_check_size K) [])
    (c_check_servers : C8.Cal P w K mg base 3 "check_servers" (sp_check_servers K) [])
    (c_check_entries : C8.Cal P w K mg base 4 "check_entries" (sp_check_entries K) []) :
    FnOk P w K mg base CX0 5 f fd ["self", "size", "servers", "entries"] (sp_Log_init K) := by
  refine F.ok sc_Log_init (fun vs H Q E h => ?_) (fun cdv A outer s H vs Q E hr h => ?_)
  · obtain ⟨p, dx, b, z, c, s', ns, es, rfl, hp, hw, hc, hs, q⟩ := h
    rfl
  · obtain ⟨p, dx, b, z, c, s', ns, es, rfl, hp, hw, hc, hs, q⟩ := h
    refine ⟨_, PSs.nox (pss_cons (ps_expr (C8.pe_c c_check_size hr (by decide) (by rfl) (pa_cons (pv 1) pa_nil)))
        (pss_cons (ps_expr (C8.pe_c c_check_servers hr (by decide) (by rfl) (pa_cons (pv 2) pa_nil)))
        (pss_cons (ps_expr (C8.pe_c c_check_entries hr (by decide) (by rfl) (pa_cons (pv 2) (pa_cons (pv 3) pa_nil))))
        (pss_cons (ps_fld (pv 0) (pv 1) rfl)
        (pss_cons (ps_fld (pv 0) (pe_callTy call_list_of (by rfl) T.n_list (by decide +kernel) (pa_cons (pv 2) pa_nil)) rfl)
        (pss_one (ps_fld (pv 0) (pe_callTy call_list_of (by rfl) T.n_list (by decide +kernel) (pa_cons (pv 3) pa_nil)) rfl))))))), ?_⟩
    walk_at "rd"
    refine ⟨z, rfl, hw.sz, c, ns, rfl, hc, hw.cr, fun H1 e1 => ⟨c, s', ns, es, rfl, hc.same e1, hs.same e1, hw.en, fun H2 e2 => ?_⟩⟩
    have e := e1.trans e2
    have hp2 := e _ _ hp
    have hc2 := hc.same e
    obtain ⟨ts, hs2, he2⟩ := hs.same e
    have npc : c ≠ p := ne_of hc2 hp2 (by simp)
    have nps : s' ≠ p := ne_of hs2 hp2 (by simp)
    refine ⟨_, dx, _, hp2, T.lf.cl b, T.lf.nS b, (by decide), _, .inl (SqL.of (upd_keep hc2 npc)), fun l hl => ?_⟩
    have npl : p ≠ l := ne_of_none upd_same hl
    refine ⟨_, dx, _, upd_keep upd_same npl, T.lf.cl b, T.lf.nV b, (by show 1 < 1000; decide), _, .inl (SqL.of (upd_keep (upd_keep (upd_keep hs2 nps) (ne_of_none (upd_keep hs2 nps) hl)) nps)), fun m hm => ?_⟩
    have npm : p ≠ m := ne_of_none upd_same hm
    have nlm : l ≠ m := ne_of_none (upd_keep upd_same npl.symm) hm
    refine ⟨_, dx, _, upd_keep upd_same npm, T.lf.cl b, T.lf.nE b, (by show _ < 1000; simp only [putF]; split <;> simp), ?_⟩
    have keep : ∀ a o, a ≠ p → H a = some o → upd (upd (upd (upd (upd H2 p (.ins (C2 K b) dx (putF "_size" (.int z) []))) l (.lst (ns.map V.str))) p (.ins (C2 K b) dx (putF "_servers" (.ref l) (putF "_size" (.int z) [])))) m (.lst (ts.map V.ref))) p (.ins (C2 K b) dx (putF "_entries" (.ref m) (putF "_servers" (.ref l) (putF "_size" (.int z) [])))) a = some o := by
      intro a o na ha
      have h1 := upd_keep (o := .ins (C2 K b) dx (putF "_size" (.int z) [])) (e _ _ ha) na
      have h2 := upd_keep (o := .lst (ns.map V.str)) h1 (ne_of_none h1 hl)
      have h3 := upd_keep (o := .ins (C2 K b) dx (putF "_servers" (.ref l) (putF "_size" (.int z) []))) h2 na
      exact upd_keep (upd_keep h3 (ne_of_none h3 hm)) na
    refine q _ l m keep ⟨dx, by rw [upd_same, fsL_put], ?_, ⟨ts, ?_, ?_⟩, hw⟩ (e.free (by rw [upd_ne npl.symm] at hl; exact hl)) (e.free (by rw [upd_ne npm.symm, upd_ne nlm.symm, upd_ne npm.symm] at hm; exact hm))
    · exact upd_keep (upd_keep (upd_keep upd_same npl.symm) nlm) npl.symm
    · exact upd_keep upd_same npm.symm
    · refine he2.imp fun t xs ht => ?_
      have nt : t ≠ p := ne_of ht hp2 (by simp)
      have h1 := upd_keep (o := .ins (C2 K b) dx (putF "_size" (.int z) [])) ht nt
      have h2 := upd_keep (o := .lst (ns.map V.str)) h1 (ne_of_none h1 hl)
      have h3 := upd_keep (o := .ins (C2 K b) dx (putF "_servers" (.ref l) (putF "_size" (.int z) []))) h2 nt
      exact upd_keep (upd_keep h3 (ne_of_none h3 hm)) nt
theorem ok_Log_size {f : Addr} {fd : FuncData} (F : d_Log_size.Is K f fd) (T : Txt K mg) :
    FnOk P w K mg base CX0 1 f fd ["self"] (sp_Log_size K) := by
  refine F.ok sc_Log_size (fun vs H Q E h => ?_) (fun cdv A outer s H vs Q E hr h => ?_)
  · obtain ⟨p, b, z, ns, es, rfl, ⟨dx, ls, le, hp, hls, hle, hw⟩, q⟩ := h
    rfl
  · obtain ⟨p, b, z, ns, es, rfl, ⟨dx, ls, le, hp, hls, hle, hw⟩, q⟩ := h
    refine ⟨_, PSs.nox (pss_one (ps_ret (pe_fld (pv 0) rfl))), ?_⟩
    walk_at "rd"
    exact ⟨_, _, _, hp, T.lf.cl b, T.lf.nS b, _, fsL_size _ _ _, q⟩
theorem ok_Log_servers {f : Addr} {fd : FuncData} (F : d_Log_servers.Is K f fd) (T : Txt K mg) :
    FnOk P w K mg base CX0 1 f fd ["self"] (sp_Log_servers K) := by
  refine F.ok sc_Log_servers (fun vs H Q E h => ?_) (fun cdv A outer s H vs Q E hr h => ?_)
  · obtain ⟨p, b, z, ns, es, rfl, ⟨dx, ls, le, hp, hls, hle, hw⟩, q⟩ := h
    rfl
  · obtain ⟨p, b, z, ns, es, rfl, ⟨dx, ls, le, hp, hls, hle, hw⟩, q⟩ := h
    refine ⟨_, PSs.nox (pss_one (ps_ret (pe_callTy call_list_of (by rfl) T.n_list (by decide +kernel) (pa_cons (pe_fld (pv 0) rfl) pa_nil)))), ?_⟩
    walk_at "rd"
    exact ⟨_, _, _, hp, T.lf.cl b, T.lf.nV b, _, fsL_servers _ _ _, _, rfl, _, .inl (CrewAt.sq hls), fun l hl => q l _ hl (Same.new (Same.refl _) hl) upd_same⟩
theorem ok_Log_entries {f : Addr} {fd : FuncData} (F : d_Log_entries.Is K f fd) (T : Txt K mg) :
    FnOk P w K mg base CX0 1 f fd ["self"] (sp_Log_entries K) := by
  refine F.ok sc_Log_entries (fun vs H Q E h => ?_) (fun cdv A outer s H vs Q E hr h => ?_)
  · obtain ⟨p, b, z, ns, es, rfl, ⟨dx, ls, le, hp, hls, ⟨ts, hle, hes⟩, hw⟩, q⟩ := h
    rfl
  · obtain ⟨p, b, z, ns, es, rfl, ⟨dx, ls, le, hp, hls, ⟨ts, hle, hes⟩, hw⟩, q⟩ := h
    refine ⟨_, PSs.nox (pss_one (ps_ret (pe_callTy call_list_of (by rfl) T.n_list (by decide +kernel) (pa_cons (pe_fld (pv 0) rfl) pa_nil)))), ?_⟩
    walk_at "rd"
    refine ⟨_, _, _, hp, T.lf.cl b, T.lf.nE b, _, fsL_entries _ _ _, _, rfl, _, .inl (SqL.of hle), fun l hl => ?_⟩
    have e : Same H (upd H l (.lst (ts.map V.ref))) := Same.new (Same.refl _) hl
    exact q l _ hl e ⟨ts, upd_same, hes.imp fun t xs h => e _ _ h⟩
theorem ok_Log_len {f : Addr} {fd : FuncData} (F : d_Log_len.Is K f fd) (T : Txt K mg) :
    FnOk P w K mg base CX0 1 f fd ["self"] (sp_Log_len K) := by
  refine F.ok sc_Log_len (fun vs H Q E h => ?_) (fun cdv A outer s H vs Q E hr h => ?_)
  · obtain ⟨p, b, z, ns, es, rfl, ⟨dx, ls, le, hp, hls, ⟨ts, hle, hes⟩, hw⟩, q⟩ := h
    rfl
  · obtain ⟨p, b, z, ns, es, rfl, ⟨dx, ls, le, hp, hls, ⟨ts, hle, hes⟩, hw⟩, q⟩ := h
    refine ⟨_, PSs.nox (pss_one (ps_ret (pe_callB call_len_seq (by rfl) T.n_len (by decide +kernel) (pa_cons (pe_fld (pv 0) rfl) pa_nil)))), ?_⟩
    walk_at "rd"
    refine ⟨_, _, _, hp, T.lf.cl b, T.lf.nE b, _, fsL_entries _ _ _, _, rfl, _, .inl (SqL.of hle), ?_⟩
    rw [List.length_map, hes.len]
    exact q
theorem ok_Log_add {f : Addr} {fd : FuncData} (F : d_Log_add.Is K f fd) (T : Txt K mg)
    (c_Log_is_alike : C8.CalAt P w K mg base 1 (d_Log_is_alike.way K) (sp_Log_is_alike K))
    (c_new_log : C8.Cal P w K mg base 7 "new_log" (sp_new_log K) []) :
    FnOk P w K mg base CX0 8 f fd ["self", "other"] (sp_Log_add K) := by
  refine F.ok sc_Log_add (fun vs H Q E h => ?_) (fun cdv A outer s H vs Q E hr h => ?_)
  · obtain ⟨p, b, z, ns, es, p', es', rfl, hp, hp', hl, q⟩ := h
    rfl
  · obtain ⟨p, b, z, ns, es, p', es', rfl, hp, hp', hl, q⟩ := h
    refine ⟨_, PSs.nox (pss_cons (ps_if (pt_not (pt_val (pe_mt2 T.m_Log_is_alike c_Log_is_alike hr (by decide) (pv 0) (pa_cons (pv 1) pa_nil))))
          (pss_one ps_never)
          pss_nil)
        (pss_cons (ps_set (i := 2) sc_Log_add.nd rfl (Or.inl rfl) (pe_op op_cat (pe_fld (pv 0) rfl) (pe_fld (pv 1) rfl)))
        (pss_cons (ps_if (pt_cmpR op_gt (pe_callB call_len_seq (by rfl) T.n_len (by decide +kernel) (pa_cons (pv 2) pa_nil)) (C8.pe_gc (by rfl) T.g_MOST_ENTRIES) (nomark _))
          (pss_one ps_never)
          pss_nil)
        (pss_one (ps_ret (C8.pe_c c_new_log hr (by decide) (by rfl) (pa_cons (pe_con (pv 0) rfl) (pa_cons (pe_fld (pv 0) rfl) (pa_cons (pe_fld (pv 0) rfl) (pa_cons (pv 2) pa_nil)))))))))), ?_⟩
    walk_at "rd"
    obtain ⟨dx, ls, le, hp1, hls, ⟨ts, hle, hes⟩, hw⟩ := id hp
    obtain ⟨dx', ls', le', hp1', hls', ⟨ts', hle', hes'⟩, hw'⟩ := id hp'
    obtain ⟨u, hu⟩ := T.lf.con b
    have n1 := hes.len
    have n2 := hes'.len
    refine ⟨b, dx, _, hp1, fsL_no (by decide +kernel) (by decide +kernel) (by decide +kernel) _ _ _, p, b, z, ns, es, .ref p', _, rfl, hp, hp'.knd, .inr ⟨p', b, z, ns, es', rfl, hp', _, rfl, ifN (by rw [decide_eq_true ⟨rfl, rfl, rfl⟩]; decide) ?_⟩⟩
    refine ⟨_, _, _, hp1, T.lf.cl b, T.lf.nE b, _, fsL_entries _ _ _, _, _, _, hp1', T.lf.cl b, T.lf.nE b, _, fsL_entries _ _ _, le, le', _, _, rfl, rfl, hle, hle', sz_le (by rw [List.length_map, List.length_map]; omega), fun l hll => ⟨l, rfl, _, .inl (SqL.of upd_same), ifN (by simp; omega) ?_⟩⟩
    have s1 := Same.new (o := .lst (ts.map V.ref ++ ts'.map V.ref)) (Same.refl H) hll
    refine ⟨_, _, _, s1 _ _ hp1, T.lf.cl b, _, _, hu, fsL_no (by decide +kernel) (by decide +kernel) (by decide +kernel) _ _ _, _, _, _, s1 _ _ hp1, T.lf.cl b, T.lf.nS b, _, fsL_size _ _ _, _, _, _, s1 _ _ hp1, T.lf.cl b, T.lf.nV b, _, fsL_servers _ _ _, b, z, ls, l, ns, es ++ es', rfl, ⟨hw.sz, hw.cr, ⟨by rw [List.length_append]; exact hl, fun e he => ?_⟩⟩, hls.same s1, ⟨ts ++ ts', by rw [upd_same, List.map_append], (Ents.cat hes hes').imp fun t xs h => s1 _ _ h⟩, fun p2 H2 h2 e2 l2 => q p2 H2 (s1.free h2) (s1.trans e2) l2⟩
    rcases List.mem_append.mp he with h | h
    · exact hw.en.ok e h
    · exact hw'.en.ok e h
theorem okx_Log_add {f : Addr} {fd : FuncData} (F : d_Log_add.Is K f fd) (T : Txt K mg)
    (c_Log_is_alike : C8.CalAt P w K mg base 1 (d_Log_is_alike.way K) (sp_Log_is_alike K))
    (c_new_log : C8.Cal P w K mg base 7 "new_log" (sp_new_log K) []) :
    FnOk P w K mg base (L2.CX P w) 8 f fd ["self", "other"] (spx_Log_add K) := by
  refine F.ok sc_Log_add (fun vs H Q E h => ?_) (fun cdv A outer s H vs Q E hr h => ?_)
  · obtain ⟨p, b, z, ns, es, p', es', rfl, hp, hp', hl, q⟩ := h
    rfl
  · obtain ⟨p, b, z, ns, es, p', es', rfl, hp, hp', hl, q⟩ := h
    refine ⟨_, (pss_cons (ps_if (pt_not (pt_val (pe_mt2 T.m_Log_is_alike c_Log_is_alike hr (by decide) (pv 0) (pa_cons (pv 1) pa_nil))))
          (pss_one (ps_raise rfl (takes_of rfl rfl rfl rfl) (pmk_own PySem.F.excBase_ValueError T.x_InvalidLog.ex T.x_InvalidLog.gl T.x_InvalidLog.kp (raises_own T.x_InvalidLog.sb T.x_InvalidLog.ty) (by rfl))))
          pss_nil)
        (pss_cons (ps_set (i := 2) sc_Log_add.nd rfl (Or.inl rfl) (pe_op op_cat (pe_fld (pv 0) rfl) (pe_fld (pv 1) rfl)))
        (pss_cons (ps_if (pt_cmpR op_gt (pe_callB call_len_seq (by rfl) T.n_len (by decide +kernel) (pa_cons (pv 2) pa_nil)) (C8.pe_gc (by rfl) T.g_MOST_ENTRIES) (nomark _))
          (pss_one (ps_raise rfl (takes_of rfl rfl rfl rfl) (pmk_own PySem.F.excBase_ValueError T.x_InvalidLog.ex T.x_InvalidLog.gl T.x_InvalidLog.kp (raises_own T.x_InvalidLog.sb T.x_InvalidLog.ty) (by rfl))))
          pss_nil)
        (pss_one (ps_ret (C8.pe_c c_new_log hr (by decide) (by rfl) (pa_cons (pe_con (pv 0) rfl) (pa_cons (pe_fld (pv 0) rfl) (pa_cons (pe_fld (pv 0) rfl) (pa_cons (pv 2) pa_nil)))))))))), ?_⟩
    walk_at "rd"
    obtain ⟨dx, ls, le, hp1, hls, ⟨ts, hle, hes⟩, hw⟩ := id hp
    obtain ⟨dx', ls', le', hp1', hls', ⟨ts', hle', hes'⟩, hw'⟩ := id hp'
    have n1 := hes.len
    have n2 := hes'.len
    have h1 := hw.en.few
    have h2 := hw'.en.few
    refine ⟨b, dx, _, hp1, fsL_no (by decide +kernel) (by decide +kernel) (by decide +kernel) _ _ _, p, b, z, ns, es, .ref p', _, rfl, hp, hp'.knd, .inr ⟨p', b, z, ns, es', rfl, hp', _, rfl, ifN (by rw [decide_eq_true ⟨rfl, rfl, rfl⟩]; decide) ?_⟩⟩
    exact ⟨_, _, _, hp1, T.lf.cl b, T.lf.nE b, _, fsL_entries _ _ _, _, _, _, hp1', T.lf.cl b, T.lf.nE b, _, fsL_entries _ _ _, le, le', _, _, rfl, rfl, hle, hle', sz_le (by rw [List.length_map, List.length_map]; omega), fun l hll => ⟨l, rfl, _, .inl (SqL.of upd_same), ifP (by simp; omega) (q _ (Same.new (Same.refl H) hll))⟩⟩
theorem ok_Log_eq {f : Addr} {fd : FuncData} (F : d_Log_eq.Is K f fd) (T : Txt K mg)
    (c_Log_is_alike : C8.CalAt P w K mg base 1 (d_Log_is_alike.way K) (sp_Log_is_alike K)) :
    FnOk P w K mg base CX0 3 f fd ["self", "other"] (sp_Log_eq K) := by
  refine F.ok sc_Log_eq (fun vs H Q E h => ?_) (fun cdv A outer s H vs Q E hr h => ?_)
  · obtain ⟨p, b, z, ns, es, y, d, rfl, hp, k, q⟩ := h
    rfl
  · obtain ⟨p, b, z, ns, es, y, d, rfl, hp, k, q⟩ := h
    refine ⟨_, PSs.nox (pss_one (ps_ret (pe_and (pe_mt2 T.m_Log_is_alike c_Log_is_alike hr (by decide) (pv 0) (pa_cons (pv 1) pa_nil)) (pe_one (pe_cmpR (op_eqD hr.units) (pe_fld (pv 0) rfl) (pe_fld (pv 1) rfl) (nomark _)))))), ?_⟩
    walk_at "rd"
    obtain ⟨dx, ls, le, hp1, hls, hle, hw⟩ := id hp
    refine ⟨_, _, _, hp1, fsL_no (by decide +kernel) (by decide +kernel) (by decide +kernel) _ _ _, p, b, z, ns, es, y, d, rfl, hp, k, ?_⟩
    rcases q with ⟨n1, n2, q⟩ | ⟨p', b', z', ns', es', rfl, hq', q⟩
    · exact .inl ⟨n1, n2, _, rfl, iteF q⟩
    · refine .inr ⟨p', b', z', ns', es', rfl, hq', _, rfl, ite2 (fun h => ?_) (fun h => ?_)⟩
      · obtain ⟨dx', ls', le', hp', hls', hle', hw'⟩ := hq'
        obtain ⟨e1, e2, e3⟩ := of_decide_eq_true h
        refine ⟨_, _, _, hp1, T.lf.cl b, T.lf.nE b, _, fsL_entries _ _ _, p', rfl, _, _, _, hp', T.lf.cl b', T.lf.nE b', _, fsL_entries _ _ _, _, _, hle.dp, hle'.dp, shaped_ens hw.cr hw.en, shaped_ens hw'.cr hw'.en, ?_⟩
        show Q (.bl (PyData.eqvAll (es.map enD) (es'.map enD))) H
        rw [eqv_ens]
        simpa [e1, e2, e3] using q
      · rw [decide_eq_false (fun e => h (decide_eq_true ⟨e.1, e.2.1, e.2.2.1⟩))] at q
        exact q
theorem ok_Log_contains {f : Addr} {fd : FuncData} (F : d_Log_contains.Is K f fd) (T : Txt K mg)
    (c_is_entry : C8.Cal P w K mg base 3 "is_entry" (sp_is_entry K) []) :
    FnOk P w K mg base CX0 4 f fd ["self", "thing"] (sp_Log_contains K) := by
  refine F.ok sc_Log_contains (fun vs H Q E h => ?_) (fun cdv A outer s H vs Q E hr h => ?_)
  · obtain ⟨p, b, z, ns, es, x, rfl, hp, h⟩ := h
    rfl
  · obtain ⟨p, b, z, ns, es, x, rfl, hp, h⟩ := h
    refine ⟨_, PSs.nox (pss_one (ps_ret (pe_and (C8.pe_c c_is_entry hr (by decide) (by rfl) (pa_cons (pe_fld (pv 0) rfl) (pa_cons (pv 1) pa_nil))) (pe_one (pe_cmpR (op_inD (room65 hr)) (pv 1) (pe_fld (pv 0) rfl) (by rfl)))))), ?_⟩
    walk_at "rd"
    obtain ⟨dx, ls, le, hp1, hls, hle, hw⟩ := id hp
    refine ⟨_, _, _, hp1, T.lf.cl b, T.lf.nV b, _, fsL_servers _ _ _, ls, ns, x, rfl, hls, ?_⟩
    rcases h with ⟨h, q⟩ | ⟨t, e, rfl, ht, q⟩
    · exact .inl ⟨h, _, rfl, iteF q⟩
    · refine .inr ⟨t, e, rfl, ht, _, rfl, ite2 (fun he => ?_) (fun he => ?_)⟩
      · exact ⟨_, _, _, hp1, T.lf.cl b, T.lf.nE b, _, fsL_entries _ _ _, in_ents ht hle hw.cr he hw.en q⟩
      · rw [decide_eq_false (fun g => he (hw.en.ok e g))] at q
        exact q
theorem ok_Log_is_alike {f : Addr} {fd : FuncData} (F : d_Log_is_alike.Is K f fd) (T : Txt K mg) :
    FnOk P w K mg base CX0 1 f fd ["self", "other"] (sp_Log_is_alike K) := by
  refine F.ok sc_Log_is_alike (fun vs H Q E h => ?_) (fun cdv A outer s H vs Q E hr h => ?_)
  · obtain ⟨p, b, z, ns, es, y, d, rfl, ⟨dx, ls, le, hp, hls, hle, hw⟩, k, q⟩ := h
    rfl
  · obtain ⟨p, b, z, ns, es, y, d, rfl, ⟨dx, ls, le, hp, hls, hle, hw⟩, k, q⟩ := h
    refine ⟨_, PSs.nox (pss_cons (ps_if (PW.pt (pw_or (pt_not (pt_val (pe_callB call_isi (by rfl) T.n_isinstance (by decide +kernel) (pa_cons (pv 1) (pa_cons (C8.pe_gc (by rfl) T.g_Log) pa_nil))))) (pw_or1 (pt_cmpR op_ne (pe_con (pv 0) rfl) (pe_con (pv 1) rfl) (nomark _)))))
          (pss_one (ps_ret pe_bl))
          pss_nil)
        (pss_one (ps_ret (pe_and (pe_cmpR op_eq (pe_fld (pv 0) rfl) (pe_fld (pv 1) rfl) (nomark _)) (pe_one (pe_cmpR (op_eqD hr.units) (pe_fld (pv 0) rfl) (pe_fld (pv 1) rfl) (nomark _))))))), ?_⟩
    walk_at "rd"
    refine isi_l (b := false) T.lf k ⟨_, rfl, ?_⟩
    rcases q with ⟨n1, n2, q⟩ | ⟨p', b', z', ns', es', rfl, hq', q⟩
    · refine ifP ?_ q
      cases d with
      | log c => cases c <;> first | exact absurd rfl n1 | exact absurd rfl n2
      | _ => rfl
    · cases hq'.kd T.lf k
      obtain ⟨dx', ls', le', hp', hls', hle', hw'⟩ := hq'
      obtain ⟨u, hu⟩ := T.lf.con b
      obtain ⟨u', hu'⟩ := T.lf.con b'
      refine ifN (by simp [isLogOf]) ⟨_, _, _, hp, T.lf.cl b, _, _, hu, fsL_no (by decide +kernel) (by decide +kernel) (by decide +kernel) _ _ _, p', rfl, _, _, _, hp', T.lf.cl b', _, _, hu', fsL_no (by decide +kernel) (by decide +kernel) (by decide +kernel) _ _ _, rfl, _, rfl, ?_⟩
      refine ite2 (fun h => ?_) (fun h => ?_)
      · have nb : b ≠ b' := by
          rintro rfl
          simp at h
        rw [decide_eq_false (fun e => nb e.1)] at q
        exact q
      · have hb : b = b' := by
          refine kindS_inj ?_
          simp at h
          exact h
        subst hb
        refine ⟨_, _, _, hp, T.lf.cl b, T.lf.nS b, _, fsL_size _ _ _, p', rfl, _, _, _, hp', T.lf.cl b, T.lf.nS b, _, fsL_size _ _ _, rfl, _, rfl, ite2 (fun hz => ?_) (fun hz => ?_)⟩
        · have ez : z = z' := V.int.inj (of_decide_eq_true hz)
          refine ⟨_, _, _, hp, T.lf.cl b, T.lf.nV b, _, fsL_servers _ _ _, p', rfl, _, _, _, hp', T.lf.cl b, T.lf.nV b, _, fsL_servers _ _ _, _, _, hls.dp, hls'.dp, shaped_crew hw.cr, shaped_crew hw'.cr, ?_⟩
          show Q (.bl (PyData.eqvAll (ns.map PyData.str) (ns'.map PyData.str))) H
          rw [eqv_strs]
          simpa [ez] using q
        · have ez : z ≠ z' := fun e => hz (decide_eq_true (by rw [e]))
          rw [decide_eq_false (fun e => ez e.2.1)] at q
          exact q
theorem ok_new_log {f : Addr} {fd : FuncData} (F : d_new_log.Is K f fd) (T : Txt K mg)
    (c_mk_LosingLog : C8.Mak P w K mg base 5 "LosingLog" (He.ga K "LosingLog") (sp_Log_init K) [])
    (c_mk_Log : C8.Mak P w K mg base 5 "Log" (He.ga K "Log") (sp_Log_init K) []) :
    FnOk P w K mg base CX0 7 f fd ["kind", "size", "servers", "entries"] (sp_new_log K) := by
  refine F.ok sc_new_log (fun vs H Q E h => ?_) (fun cdv A outer s H vs Q E hr h => ?_)
  · obtain ⟨b, z, c, s', ns, es, rfl, hw, hc, hs, q⟩ := h
    rfl
  · obtain ⟨b, z, c, s', ns, es, rfl, hw, hc, hs, q⟩ := h
    refine ⟨_, PSs.nox (pss_cons (ps_if (pt_cmpR op_eq (pv 0) (ClX.pe_cval (C8.pe_gc (by rfl) T.g_LosingLog)) (nomark _))
          (pss_one (ps_ret (C8.pe_mk c_mk_LosingLog hr (by decide) (by rfl) (pa_cons (pv 1) (pa_cons (pv 2) (pa_cons (pv 3) pa_nil))))))
          pss_nil)
        (pss_one (ps_ret (C8.pe_mk c_mk_Log hr (by decide) (by rfl) (pa_cons (pv 1) (pa_cons (pv 2) (pa_cons (pv 3) pa_nil))))))), ?_⟩
    walk_at "rd"
    obtain ⟨u, hu⟩ := T.lf.cv true
    refine ⟨_, T.lf.rd true, _, u, hu, by cases b <;> rfl, _, rfl, ?_⟩
    cases b with
    | true => exact ifP (by decide +kernel) (mk_new (b := true) hw hc hs q)
    | false => exact ifN (by decide +kernel) (mk_new (b := false) hw hc hs q)
theorem ok_write_log {f : Addr} {fd : FuncData} (F : d_write_log.Is K f fd) (T : Txt K mg)
    (c_Log_size : C8.CalAt P w K mg base 1 (d_Log_size.way K) (sp_Log_size K))
    (c_Log_servers : C8.CalAt P w K mg base 1 (d_Log_servers.way K) (sp_Log_servers K))
    (c_Log_entries : C8.CalAt P w K mg base 1 (d_Log_entries.way K) (sp_Log_entries K)) :
    FnOk P w K mg base CX0 3 f fd ["log"] (sp_write_log K) := by
  refine F.ok sc_write_log (fun vs H Q E h => ?_) (fun cdv A outer s H vs Q E hr h => ?_)
  · obtain ⟨p, b, z, ns, es, rfl, hX, hb, q⟩ := h
    rfl
  · obtain ⟨p, b, z, ns, es, rfl, hX, hb, q⟩ := h
    refine ⟨_, PSs.nox (pss_cons (ps_set (i := 1) sc_write_log.nd rfl (Or.inl rfl) (pe_lst (pa_cons (pe_con (pv 0) rfl) (pa_cons (pe_callTy call_str_int (by rfl) T.n_str (by decide +kernel) (pa_cons (pe_prp2 T.p_size c_Log_size hr (by decide) (pv 0)) pa_nil)) (pa_cons (pe_bm PySem.F.plainAttrs_str PySem.F.slot_str_join PySem.F.type_str_join mt_join pe_str (pa_cons (pe_prp2 T.p_servers c_Log_servers hr (by decide) (pv 0)) pa_nil)) pa_nil)))))
        (pss_cons (ps_expr (pe_bm PySem.F.plainAttrs_list PySem.F.slot_list_extend PySem.F.type_list_extend mt_extend (pv 1) (pa_cons (pe_lc (own := [("server", 2), ("number", 3)]) (g := gTup K 2 (gCons (gName 2) (gCons (gName 3) gNil))) (tt := tYes) (by rfl) sc_write_log.nd (pi_list (pe_prp2 T.p_entries c_Log_entries hr (by decide) (pv 0))) (blkOk_by (N := ["log", "words", "server", "number"]) (sc := defScope s_write_log) (by decide +kernel)) (fun _ _ _ _ _ => (pg_tupK (K := K) rfl (by rfl) (pgs_cons (pg_name (i := 2) sc_write_log.nd rfl (Or.inl rfl)) (pgs_cons (pg_name (i := 3) sc_write_log.nd rfl (Or.inl rfl)) pgs_nil)))) (fun _ _ _ _ _ => pts_nil) (fun _ _ _ _ _ => (pe_joined (.cons (pe_fmt (pv 2)) (.cons pe_str (.cons (pe_fmt (pv 3)) .nil)))))) pa_nil)))
        (pss_one (ps_ret (pe_bm PySem.F.plainAttrs_str PySem.F.slot_str_join PySem.F.type_str_join mt_join pe_str (pa_cons (pv 1) pa_nil)))))), ?_⟩
    obtain ⟨dx, ls, le, hp, hls, hle, hw⟩ := id hX
    obtain ⟨u, hu⟩ := T.lf.con b
    have pos := wf_pos hw
    have zs := int_small (i := z) (by have := hw.sz.1; omega) (Int.le_trans hw.sz.2 (by decide +kernel))
    have nl : ∀ n ∈ ns, n.length ≤ 8 := fun n hn => name_len (hw.cr.ok n hn)
    have n12 := hw.cr.few.2
    have nsum := sum_le (fun x : Str => x.length) 8 ns nl
    have es2 := fun e he => int_small (pos e he) (hb e he)
    refine cut_seq (fun σ H' => ∃ wl, σ = [some (.ref p), some (.ref wl), none, none] ∧ H' wl = some (.lst ([kindS b, Str.ofString (toString z), Txt.join (Str.ofString ",") ns].map V.str)) ∧ H wl = none ∧ Same H H') (fun N hN => ?_) ?_
    · walk_at "rd"
      refine ⟨_, _, _, hp, T.lf.cl b, _, _, hu, fsL_no (by decide +kernel) (by decide +kernel) (by decide +kernel) _ _ _, b, _, _, hp, p, b, z, ns, es, rfl, hX, z, rfl, zs.1, rfl, b, _, _, hp, p, b, z, ns, es, rfl, hX, fun a H1 ha e hC => ⟨a, rfl, ns, .inl (SqL.of hC), ?_, sz_le (by decide), fun wl hwl => hN _ _ ⟨wl, rfl, upd_same, e.free hwl, Same.new e hwl⟩⟩⟩
      rw [show (Str.ofString ",").length = 1 by decide +kernel]
      omega
    rintro σ1 H1 ⟨wl, rfl, hwl, fwl, e1⟩
    have hX1 := hX.same e1
    refine cut_seq (fun σ H' => ∃ t2 t3, σ = [some (.ref p), some (.ref wl), t2, t3] ∧ H' wl = some (.lst ((wordsL b z ns es).map V.str)) ∧ Same H H') (fun N hN => ?_) ?_
    · walk_at "rd"
      refine ⟨.inl ⟨rfl, _, SqL.of hwl⟩, b, _, _, e1 _ _ hp, p, b, z, ns, es, rfl, hX1, fun a H2 ha e2 hE => ?_⟩
      obtain ⟨ts, g1, g2⟩ := hE
      have tl := g2.len
      have few := hw.en.few
      refine ⟨a, rfl, ⟨_, SqL.of g1⟩, fun L hL => comp_list (ts.map V.ref) (fun j H9 => Same H2 H9 ∧ H9 L = some (.lst (((es.take j).map entT).map V.str))) ⟨Same.new (Same.refl _) hL, upd_same⟩ (fun j H9 _ k => SqL.of (k.1 _ _ g1)) ?_ ?_⟩
      · rintro j x H9 hj ⟨e9, h1⟩
        rw [List.getElem?_map] at hj
        obtain ⟨t, ht, rfl⟩ := Option.map_eq_some_iff.mp hj
        obtain ⟨en, hen, hut⟩ := g2.get ht
        have hne := List.mem_of_getElem? hen
        rw [List.take_add_one, hen, List.map_append, List.map_append]
        have i2 := es2 en hne
        have n8 := nl en.1 ((ens_nm hw.en) en hne)
        have e0 : Str.empty.length = 0 := by decide +kernel
        have e1' : (Str.ofString ":").length = 1 := by decide +kernel
        walk_at "rd"
        refine ⟨_, SqT.of (e9 _ _ hut), rfl, _, _, rfl, _, _, rfl, rfl, .inl ⟨en.1, rfl, sz_le (by omega), sz_le (by rw [len_app]; omega), sz_le (by rw [len_app, len_app]; omega), .inr ⟨en.2, rfl, i2.1, sz_le (by rw [len_app, len_app, len_app]; omega), _, h1, sz_lt (by rw [List.length_map, List.length_map, List.length_take]; omega), Nb.Same.mut e9 hL, ?_⟩⟩⟩
        rw [upd_same]
        rfl
      · rintro H9 ⟨e9, h1⟩
        rw [List.length_map, tl, List.take_length] at h1
        have E9 := e1.trans (e2.trans e9)
        refine ⟨wl, L, _, _, rfl, rfl, (e2.trans e9) _ _ hwl, h1, sz_le (by rw [List.length_map, List.length_map, List.length_map]; show 3 + es.length ≤ 100000; omega), hN _ _ ⟨_, _, rfl, ?_, Nb.Same.mut E9 fwl⟩⟩
        rw [upd_same, ← List.map_append]
        rfl
    rintro σ2 H2 ⟨t2, t3, rfl, hwl2, e2⟩
    walk_at "rd"
    refine ⟨rfl, _, .inl (SqL.of hwl2), ?_, q _ e2⟩
    have hsum := sum_le (fun x : Str => x.length) 2000 (wordsL b z ns es) fun w hw' => words_len zs.2 nl n12 (fun e he => (es2 e he).2) (fun e he => nl e.1 (ens_nm hw.en e he)) hw'
    have few := hw.en.few
    have hlen : (wordsL b z ns es).length = 3 + es.length := by
      unfold wordsL
      rw [List.length_append, List.length_map]
      rfl
    rw [hlen] at hsum
    rw [show (Str.ofString " ").length = 1 by decide +kernel, hlen]
    omega
theorem ok_read_log {f : Addr} {fd : FuncData} (F : d_read_log.Is K f fd) (T : Txt K mg)
    (c_check_words : C8.Cal P w K mg base 4 "check_words" (sp_check_words K) [])
    (c_read_entry : C8.Cal P w K mg base 1 "read_entry" (sp_read_entry K) [])
    (c_new_log : C8.Cal P w K mg base 7 "new_log" (sp_new_log K) []) :
    FnOk P w K mg base CX0 8 f fd ["text"] (sp_read_log K) := by
  refine F.ok sc_read_log (fun vs H Q E h => ?_) (fun cdv A outer s H vs Q E hr h => ?_)
  · obtain ⟨b, z, ns, es, rfl, hw, hs, q⟩ := h
    rfl
  · obtain ⟨b, z, ns, es, rfl, hw, hs, q⟩ := h
    refine ⟨_, PSs.nox (pss_cons (ps_set (i := 1) sc_read_log.nd rfl (Or.inl rfl) (pe_bm PySem.F.plainAttrs_str PySem.F.slot_str_split PySem.F.type_str_split mt_split (pv 0) (pa_cons pe_str pa_nil)))
        (pss_cons (ps_expr (C8.pe_c c_check_words hr (by decide) (by rfl) (pa_cons (pv 1) (pa_cons (C8.pe_gc (by rfl) T.g_stands_in_log) pa_nil))))
        (pss_cons (ps_if (pt_cmpR op_lt (pe_callB call_len_seq (by rfl) T.n_len (by decide +kernel) (pa_cons (pv 1) pa_nil)) (C8.pe_gc (by rfl) T.g_HEAD_WORDS) (nomark _))
          (pss_one ps_never)
          pss_nil)
        (pss_cons (ps_setLc (i := 2) (own := [("word", 3)]) (g := gName 3) (tt := tYes) (by rfl) sc_read_log.nd rfl rfl (sw_true rfl rfl rfl (by decide +kernel)) (pi_list (pe_slice sl_list (pv 1) (po_some (C8.pe_gc (by rfl) T.g_HEAD_WORDS)) po_none)) (blkOk_by (N := ["text", "words", "entries", "word"]) (sc := defScope s_read_log) (by decide +kernel)) (fun _ _ _ _ _ => (pg_name (i := 3) sc_read_log.nd rfl (Or.inl rfl))) (fun _ _ _ _ _ => pts_nil) (fun _ _ _ _ _ => (C8.pe_c c_read_entry hr (by decide) (by rfl) (pa_cons (pv 3) pa_nil))))
        (pss_one (ps_ret (C8.pe_c c_new_log hr (by decide) (by rfl) (pa_cons (pe_ix ix_list (pv 1) pe_int (fun _ _ => rfl)) (pa_cons (pe_callTy call_int_str (by rfl) T.n_int (by decide +kernel) (pa_cons (pe_ix ix_list (pv 1) pe_int (fun _ _ => rfl)) pa_nil)) (pa_cons (pe_bm PySem.F.plainAttrs_str PySem.F.slot_str_split PySem.F.type_str_split mt_split (pe_ix ix_list (pv 1) pe_int (fun _ _ => rfl)) (pa_cons pe_str pa_nil)) (pa_cons (pv 2) pa_nil))))))))))), ?_⟩
    have pos := wf_pos hw
    have wl := wordsL_len b z ns es
    have few := hw.en.few
    have jl := join_len60 (b := b) hw hs
    have hz0 : 0 ≤ z ∧ z < 10 ^ 60 := ⟨by have := hw.sz.1; omega, Int.lt_of_le_of_lt hw.sz.2 (by decide +kernel)⟩
    have n60 := (num_len60 hz0.1 hz0.2).2
    have cl : (Txt.join (Str.ofString ",") ns).length ≤ 200 := by
      have h3 := join_len (Str.ofString ",") ns
      have h4 := sum_le (fun x : Str => x.length) 8 ns fun n hn => name_len (hw.cr.ok n hn)
      have h5 : (Str.ofString ",").length = 1 := by decide +kernel
      have := hw.cr.few.2
      rw [h5] at h3
      omega
    refine cut_seq (fun σ H' => ∃ wa, σ = [some (.str (Txt.join (Str.ofString " ") (wordsL b z ns es))), some (.ref wa), none, none] ∧ H' wa = some (.lst ((wordsL b z ns es).map V.str)) ∧ Same H H') (fun N hN => ?_) ?_
    · walk_at "rd"
      refine ⟨rfl, by decide +kernel, sz_le (by omega), fun p hp => ?_⟩
      rw [words_split hw]
      exact hN _ _ ⟨p, rfl, upd_same, Same.new (Same.refl _) hp⟩
    rintro σ1 H1 ⟨wa, rfl, hwa, e1⟩
    refine cut_seq (fun σ H' => σ = [some (.str (Txt.join (Str.ofString " ") (wordsL b z ns es))), some (.ref wa), none, none] ∧ Same H1 H') (fun N hN => ?_) ?_
    · walk_at "rd"
      exact ⟨wa, b, z, ns, es, rfl, hwa, hw, hs, fun H2 e2 => hN _ _ ⟨rfl, e2⟩⟩
    rintro σ2 H2 ⟨rfl, e2⟩
    have hwa2 : H2 wa = some (.lst ((wordsL b z ns es).map V.str)) := e2 _ _ hwa
    have E2 := e1.trans e2
    have lw : ((wordsL b z ns es).map V.str).length = 3 + es.length := by rw [List.length_map, wl]
    refine cut_seq (fun σ H' => σ = [some (.str (Txt.join (Str.ofString " ") (wordsL b z ns es))), some (.ref wa), none, none] ∧ H' = H2) (fun N hN => ?_) ?_
    · walk_at "rd"
      exact ⟨_, .inl (SqL.of hwa2), ifN (by omega) (hN _ _ ⟨rfl, rfl⟩)⟩
    rintro σ3 H3 ⟨rfl, rfl⟩
    refine cut_seq (fun σ H' => ∃ s, σ = [some (.str (Txt.join (Str.ofString " ") (wordsL b z ns es))), some (.ref wa), some (.ref s), none] ∧ EntsAt H' s es ∧ Same H3 H') (fun N hN => ?_) ?_
    · walk_at "rd"
      refine ⟨wa, _, rfl, SqL.of hwa2, fun l hl => ⟨l, rfl, ⟨_, SqL.of upd_same⟩, fun L hL => ?_⟩⟩
      have hcut : cutV ((wordsL b z ns es).map V.str) (some 3) none = (es.map entT).map V.str := by
        rw [show (some (3 : Int)) = some ((3 : Nat) : Int) from rfl, cut_from, ← List.map_drop]
        rfl
      rw [hcut] at hL ⊢
      have k1 := Same.new (o := .lst ((es.map entT).map V.str)) (Same.refl H3) hl
      have lA : upd H3 l (.lst ((es.map entT).map V.str)) l = some (.lst ((es.map entT).map V.str)) := upd_same
      generalize upd H3 l (.lst ((es.map entT).map V.str)) = G at k1 lA hL ⊢
      refine comp_list ((es.map entT).map V.str) (fun k H9 => Same G H9 ∧ ∃ us : List Addr, H9 L = some (.lst (us.map V.ref)) ∧ us.length ≤ k ∧ Ents H9 us (es.take k)) ⟨Same.new (Same.refl _) hL, [], upd_same, Nat.le_refl _, by rw [List.take_zero]; trivial⟩ (fun k H9 _ g => SqL.of (g.1 _ _ lA)) ?_ ?_
      · rintro k x H9 hk ⟨e9, us, f1, f2, f3⟩
        rw [List.getElem?_map, List.getElem?_map, Option.map_map] at hk
        obtain ⟨en, hen, rfl⟩ := Option.map_eq_some_iff.mp hk
        have hm := List.mem_of_getElem? hen
        have hkl := (List.getElem?_eq_some_iff.mp hen).1
        walk_at "rd"
        refine ⟨en, rfl, hw.cr.ok en.1 (ens_nm hw.en en hm), pos en hm, hs en hm, fun t HA ht eA hA => ?_⟩
        have f1A := eA _ _ f1
        have kk : ∀ t' xs, HA t' = some (.tup xs) → upd HA L (.lst (us.map V.ref ++ [.ref t])) t' = some (.tup xs) := fun t xs g => upd_keep g (ne_of g f1A (by simp))
        refine ⟨_, f1A, sz_lt (by rw [List.length_map]; omega), Nb.Same.mut (e9.trans eA) hL, us ++ [t], by rw [upd_same, List.map_append]; rfl, by rw [List.length_append, List.length_singleton]; omega, ?_⟩
        rw [List.take_add_one, hen]
        exact Ents.app (kk _ _ hA) ((f3.imp fun t xs g => eA _ _ g).imp kk)
      · rintro H9 ⟨e9, us, f1, f2, f3⟩
        rw [List.length_map, List.length_map, List.take_length] at f3
        exact hN _ _ ⟨L, rfl, ⟨us, f1, f3⟩, k1.trans e9⟩
    rintro σ4 H4 ⟨s, rfl, hs4, e4⟩
    have hwa4 := e4 _ _ hwa2
    have w0 : ((wordsL b z ns es).map V.str)[0]? = some (.str (kindS b)) := rfl
    have w1 : ((wordsL b z ns es).map V.str)[1]? = some (.str (numT z)) := rfl
    have w2 : ((wordsL b z ns es).map V.str)[2]? = some (.str (Txt.join (Str.ofString ",") ns)) := rfl
    walk_at "rd"
    refine ⟨_, SqL.of hwa4, _, atI_nat (j := 0) w0, _, SqL.of hwa4, _, atI_nat (j := 1) w1, numT z, rfl, z, num_int hz0.1 hz0.2, by omega, ?_⟩
    refine ⟨_, SqL.of hwa4, _, atI_nat (j := 2) w2, rfl, _, rfl, by decide +kernel, sz_le (by omega), fun p hp => ?_⟩
    rw [crew_split hw.cr]
    have k := Same.new (o := .lst (ns.map V.str)) (Same.refl H4) hp
    have E4 := E2.trans e4
    exact ⟨b, z, p, s, ns, es, rfl, hw, upd_same, hs4.same k, fun x H' hx e hX => q x H' ((E4.trans k).free hx) ((E4.trans k).trans e) hX⟩
theorem ok_check_words {f : Addr} {fd : FuncData} (F : d_check_words.Is K f fd) (T : Txt K mg)
    (cv_stands_in_log : C8.CalAt P w K mg base 3 (d_stands_in_log.way K) (sp_stands_in_log K)) :
    FnOk P w K mg base CX0 4 f fd ["words", "can_stand"] (sp_check_words K) := by
  refine F.ok sc_check_words (fun vs H Q E h => ?_) (fun cdv A outer s H vs Q E hr h => ?_)
  · obtain ⟨a, b, z, ns, es, rfl, ha, hw, hs, q⟩ := h
    rfl
  · obtain ⟨a, b, z, ns, es, rfl, ha, hw, hs, q⟩ := h
    refine ⟨_, PSs.nox (pss_one (ps_for PassesOwn.never rfl (pi_range1 (by rfl) T.n_range (pa_cons (pe_callB call_len_seq (by rfl) T.n_len (by decide +kernel) (pa_cons (pv 0) pa_nil)) pa_nil)) (pg_name (i := 2) sc_check_words.nd rfl (Or.inl rfl))
          (pss_one (ps_if (pt_not (pt_val (C8.pe_cv (i := 1) (k1 := 3) (k2 := 3) cv_stands_in_log cv_stands_in_log hr (by decide) (by decide) (by rfl) (Or.inl rfl) (pa_cons (pv 0) (pa_cons (pv 2) pa_nil)))))
            (pss_one ps_never)
            pss_nil)))), ?_⟩
    have wl := wordsL_len b z ns es
    have few := hw.en.few
    walk_at "rd"
    refine ⟨_, .inl (SqL.of ha), by omega, by rw [List.length_map]; omega, ?_⟩
    rw [show ((((wordsL b z ns es).map V.str).length : Nat) : Int).toNat = (wordsL b z ns es).length by rw [List.length_map]; omega]
    refine loop_rng (fun i σ' H' => (∃ t2, σ' = [some (.ref a), some (.ref (He.ga K "stands_in_log")), t2]) ∧ Same H H') ⟨⟨_, rfl⟩, Same.refl _⟩ ?_ ?_
    · rintro i σ' H' hi ⟨⟨t2, rfl⟩, e⟩
      simp only [gName, List.set_cons_succ, List.set_cons_zero]
      walk_at "rd"
      exact .inl ⟨rfl, a, b, z, ns, es, i, rfl, e _ _ ha, hw, hs, hi, fun H2 e2 => ⟨_, rfl, ifN (by decide) ⟨⟨_, rfl⟩, e.trans e2⟩⟩⟩
    · rintro σ' H' ⟨⟨t2, rfl⟩, e⟩
      exact q _ e
theorem ok_stands_in_log {f : Addr} {fd : FuncData} (F : d_stands_in_log.Is K f fd) (T : Txt K mg)
    (c_is_number_text : C8.Cal P w K mg base 1 "is_number_text" (sp_is_number_text K) [])
    (c_is_size : C8.Cal P w K mg base 2 "is_size" (sp_is_size K) [])
    (c_are_servers : C8.Cal P w K mg base 2 "are_servers" (sp_are_servers K) [])
    (c_is_entry_text : C8.Cal P w K mg base 2 "is_entry_text" (sp_is_entry_text K) []) :
    FnOk P w K mg base CX0 3 f fd ["words", "place"] (sp_stands_in_log K) := by
  refine F.ok sc_stands_in_log (fun vs H Q E h => ?_) (fun cdv A outer s H vs Q E hr h => ?_)
  · obtain ⟨a, b, z, ns, es, i, rfl, ha, hw, hs, hi, q⟩ := h
    rfl
  · obtain ⟨a, b, z, ns, es, i, rfl, ha, hw, hs, hi, q⟩ := h
    refine ⟨_, PSs.nox (pss_cons (ps_set (i := 2) sc_stands_in_log.nd rfl (Or.inl rfl) (pe_ix ix_list (pv 0) (pv 1) (fun _ _ => rfl)))
        (pss_cons (ps_if (pt_cmpR op_eq (pv 1) pe_int (nomark _))
          (pss_one (ps_ret (pe_cmpR op_in_seq (pv 2) (pe_tup (pa_cons (ClX.pe_cval (C8.pe_gc (by rfl) T.g_Log)) (pa_cons (ClX.pe_cval (C8.pe_gc (by rfl) T.g_LosingLog)) pa_nil))) (by rfl))))
          pss_nil)
        (pss_cons (ps_if (pt_cmpR op_eq (pv 1) pe_int (nomark _))
          (pss_one (ps_ret (pe_and (C8.pe_c c_is_number_text hr (by decide) (by rfl) (pa_cons (pv 2) pa_nil)) (pe_one (C8.pe_c c_is_size hr (by decide) (by rfl) (pa_cons (pe_callTy call_int_str (by rfl) T.n_int (by decide +kernel) (pa_cons (pv 2) pa_nil)) pa_nil))))))
          pss_nil)
        (pss_cons (ps_if (pt_cmpR op_eq (pv 1) pe_int (nomark _))
          (pss_one (ps_ret (C8.pe_c c_are_servers hr (by decide) (by rfl) (pa_cons (pe_bm PySem.F.plainAttrs_str PySem.F.slot_str_split PySem.F.type_str_split mt_split (pv 2) (pa_cons pe_str pa_nil)) pa_nil))))
          pss_nil)
        (pss_one (ps_ret (pe_and (pe_cmpR op_lt (pv 1) (pe_op op_add (C8.pe_gc (by rfl) T.g_HEAD_WORDS) (C8.pe_gc (by rfl) T.g_MOST_ENTRIES)) (nomark _)) (pe_one (C8.pe_c c_is_entry_text hr (by decide) (by rfl) (pa_cons (pe_bm PySem.F.plainAttrs_str PySem.F.slot_str_split PySem.F.type_str_split mt_split (pe_ix ix_list (pv 0) pe_int (fun _ _ => rfl)) (pa_cons pe_str pa_nil)) (pa_cons (pv 2) pa_nil))))))))))), ?_⟩
    walk_at "rd"
    have pos := wf_pos hw
    have hz0 : 0 ≤ z ∧ z < 10 ^ 60 := ⟨by have := hw.sz.1; omega, Int.lt_of_le_of_lt hw.sz.2 (by decide +kernel)⟩
    have wl := wordsL_len b z ns es
    have few := hw.en.few
    have cl : (Txt.join (Str.ofString ",") ns).length ≤ 200 := by
      have h3 := join_len (Str.ofString ",") ns
      have h4 := sum_le (fun x : Str => x.length) 8 ns fun n hn => name_len (hw.cr.ok n hn)
      have h5 : (Str.ofString ",").length = 1 := by decide +kernel
      have := hw.cr.few.2
      rw [h5] at h3
      omega
    obtain ⟨wd, hwd⟩ : ∃ wd, (wordsL b z ns es)[i]? = some wd := ⟨_, List.getElem?_eq_getElem hi⟩
    have gt : (wordsL b z ns es)[i]? = ([kindS b, numT z, Txt.join (Str.ofString ",") ns] ++ es.map entT)[i]? := rfl
    refine ⟨_, SqL.of ha, .str wd, atI_nat (by rw [List.getElem?_map, hwd]; rfl), eq_int ⟨_, rfl, ?_⟩⟩
    by_cases e0 : i = 0
    · subst e0
      obtain rfl : wd = kindS b := by
        have := hwd.symm.trans gt
        exact Option.some.inj this
      obtain ⟨u0, hu0⟩ := T.lf.cv false
      obtain ⟨u1, hu1⟩ := T.lf.cv true
      refine ifP (by decide) ⟨_, T.lf.rd false, _, u0, hu0, _, T.lf.rd true, _, u1, hu1, sz_le (by decide), fun p hp => ⟨p, _, rfl, .inr (SqT.of upd_same), rfl, ?_, ?_⟩⟩
      · rfl
      · have := q _ (Same.new (o := .tup [.str (kindS false), .str (kindS true)]) (Same.refl H) hp)
        rw [if_neg (by decide)]
        cases b
        · exact this
        · exact this
    refine ifN (by simp; omega) (eq_int ⟨_, rfl, ?_⟩)
    by_cases e1 : i = 1
    · subst e1
      obtain rfl : wd = numT z := by
        have := hwd.symm.trans gt
        exact Option.some.inj this
      have n60 := (num_len60 hz0.1 hz0.2).2
      refine ifP (by decide) ⟨z, rfl, hz0.1, hz0.2, _, rfl, ifP rfl ⟨numT z, rfl, z, num_int hz0.1 hz0.2, by omega, .int z, .int, rfl, .int z, ?_⟩⟩
      have e1 : sizeV (.int z) = true := by
        show (decide (1 ≤ z) && decide (z ≤ 10 ^ 30)) = _
        rw [decide_eq_true hw.sz.1, decide_eq_true hw.sz.2]
        rfl
      rw [e1]
      exact q _ (Same.refl _)
    refine ifN (by simp; omega) (eq_int ⟨_, rfl, ?_⟩)
    by_cases e2 : i = 2
    · subst e2
      obtain rfl : wd = Txt.join (Str.ofString ",") ns := by
        have := hwd.symm.trans gt
        exact Option.some.inj this
      refine ifP (by decide) ⟨rfl, _, rfl, by decide +kernel, sz_le (by omega), fun p hp => ?_⟩
      rw [crew_split hw.cr]
      have k := Same.new (o := .lst (ns.map V.str)) (Same.refl H) hp
      exact ⟨p, ns, rfl, upd_same, hw.cr, fun H' e => q _ (k.trans e)⟩
    refine ifN (by simp; omega) (ifP (by omega) ?_)
    have h2 : (wordsL b z ns es)[2]? = some (Txt.join (Str.ofString ",") ns) := rfl
    obtain ⟨en, hen, rfl⟩ : ∃ en, en ∈ es ∧ wd = entT en := by
      rw [gt, List.getElem?_append_right (by show 3 ≤ i; omega)] at hwd
      obtain ⟨en, h3, h4⟩ := List.mem_map.mp (List.mem_of_getElem? hwd)
      exact ⟨en, h3, h4.symm⟩
    refine ⟨_, SqL.of ha, .str (Txt.join (Str.ofString ",") ns), atI_nat (j := 2) (by rw [List.getElem?_map, h2]; rfl), rfl, _, rfl, by decide +kernel, sz_le (by omega), fun p hp => ?_⟩
    rw [crew_split hw.cr]
    have k := Same.new (o := .lst (ns.map V.str)) (Same.refl H) hp
    have nmn := ens_nm hw.en en hen
    exact ⟨p, ns, en, rfl, upd_same, nmn, hw.cr.ok en.1 nmn, pos en hen, hs en hen, fun H' e => q _ (k.trans e)⟩
theorem ok_is_number_text {f : Addr} {fd : FuncData} (F : d_is_number_text.Is K f fd) (T : Txt K mg) :
    FnOk P w K mg base CX0 1 f fd ["word"] (sp_is_number_text K) := by
  refine F.ok sc_is_number_text (fun vs H Q E h => ?_) (fun cdv A outer s H vs Q E hr h => ?_)
  · obtain ⟨i, rfl, h0, h1, q⟩ := h
    rfl
  · obtain ⟨i, rfl, h0, h1, q⟩ := h
    refine ⟨_, PSs.nox (pss_cons (ps_if (PW.pt (pw_or (pt_not (pt_chain op_le op_le pe_int (pe_callB call_len_str (by rfl) T.n_len (by decide +kernel) (pa_cons (pv 0) pa_nil)) (C8.pe_gc (by rfl) T.g_MOST_DIGITS))) (pw_or (pt_not (pt_val (pe_bm0 PySem.F.plainAttrs_str PySem.F.slot_str_isascii PySem.F.type_str_isascii mt_isascii (pv 0)))) (pw_or1 (pt_not (pt_val (pe_bm0 PySem.F.plainAttrs_str PySem.F.slot_str_isdigit PySem.F.type_str_isdigit mt_isdigit (pv 0))))))))
          (pss_one (ps_ret pe_bl))
          pss_nil)
        (pss_one (ps_ret (pe_or (pe_cmpR op_eq (pv 0) pe_str (nomark _)) (pe_one (pe_not (pe_bm PySem.F.plainAttrs_str PySem.F.slot_str_startswith PySem.F.type_str_startswith mt_startswith (pv 0) (pa_cons pe_str pa_nil)))))))), ?_⟩
    have hl := num_len60 h0 h1
    have ha := num_ascii h0
    have hd := num_isdigit h0 h1
    have hz := num_zero h0
    walk_at "rd"
    refine ⟨sz_le (by omega), ifP (by omega) (ifN (by omega) ⟨rfl, ifN (by simp [ha]) ⟨rfl, ifN (by simp [hd]) ?_⟩⟩)⟩
    refine ⟨rfl, _, rfl, ?_⟩
    rw [dS]
    rcases hz with g | g
    · rw [decide_eq_true g]
      exact ifP rfl q
    · by_cases h : numT i = Str.ofString "0"
      · rw [decide_eq_true h]
        exact ifP rfl q
      · rw [decide_eq_false h]
        refine ifN (by decide) ⟨rfl, ?_⟩
        rw [g]
        exact q
theorem ok_is_entry_text {f : Addr} {fd : FuncData} (F : d_is_entry_text.Is K f fd) (T : Txt K mg)
    (c_is_number_text : C8.Cal P w K mg base 1 "is_number_text" (sp_is_number_text K) []) :
    FnOk P w K mg base CX0 2 f fd ["servers", "word"] (sp_is_entry_text K) := by
  refine F.ok sc_is_entry_text (fun vs H Q E h => ?_) (fun cdv A outer s H vs Q E hr h => ?_)
  · obtain ⟨c, ns, e, rfl, hc, hn, hk, h0, h1, q⟩ := h
    rfl
  · obtain ⟨c, ns, e, rfl, hc, hn, hk, h0, h1, q⟩ := h
    refine ⟨_, PSs.nox (pss_cons (ps_asg (pe_bm PySem.F.plainAttrs_str PySem.F.slot_str_partition PySem.F.type_str_partition mt_partition (pv 1) (pa_cons pe_str pa_nil)) (pg_tup (by rfl) (pgs_cons (pg_name (i := 2) sc_is_entry_text.nd rfl (Or.inl rfl)) (pgs_cons (pg_name (i := 3) sc_is_entry_text.nd rfl (Or.inl rfl)) (pgs_cons (pg_name (i := 4) sc_is_entry_text.nd rfl (Or.inl rfl)) pgs_nil)))))
        (pss_one (ps_ret (pe_and (pe_cmpR op_in_seq (pv 2) (pv 0) (by rfl)) (pe_one (C8.pe_c c_is_number_text hr (by decide) (by rfl) (pa_cons (pv 4) pa_nil))))))), ?_⟩
    have hp := ent_part hk
    have hl := ent_len hk h0 h1
    walk_at "rd"
    refine ⟨rfl, by decide +kernel, sz_le (by omega), fun p hp' => ?_⟩
    rw [hp]
    have k := Same.new (o := .tup [.str e.1, .str (Str.ofString ":"), .str (numT e.2)]) (Same.refl H) hp'
    refine ⟨_, SqT.of upd_same, rfl, _, _, rfl, _, _, rfl, _, _, rfl, rfl, in_crew (hc.same k) ⟨_, rfl, ifP (decide_eq_true hn) ?_⟩⟩
    exact ⟨e.2, rfl, h0, h1, q _ k⟩
theorem ok_read_entry {f : Addr} {fd : FuncData} (F : d_read_entry.Is K f fd) (T : Txt K mg) :
    FnOk P w K mg base CX0 1 f fd ["word"] (sp_read_entry K) := by
  refine F.ok sc_read_entry (fun vs H Q E h => ?_) (fun cdv A outer s H vs Q E hr h => ?_)
  · obtain ⟨e, rfl, hk, h0, h1, q⟩ := h
    rfl
  · obtain ⟨e, rfl, hk, h0, h1, q⟩ := h
    refine ⟨_, PSs.nox (pss_cons (ps_asg (pe_bm PySem.F.plainAttrs_str PySem.F.slot_str_partition PySem.F.type_str_partition mt_partition (pv 0) (pa_cons pe_str pa_nil)) (pg_tup (by rfl) (pgs_cons (pg_name (i := 1) sc_read_entry.nd rfl (Or.inl rfl)) (pgs_cons (pg_name (i := 2) sc_read_entry.nd rfl (Or.inl rfl)) (pgs_cons (pg_name (i := 3) sc_read_entry.nd rfl (Or.inl rfl)) pgs_nil)))))
        (pss_one (ps_ret (pe_tup (pa_cons (pv 1) (pa_cons (pe_callTy call_int_str (by rfl) T.n_int (by decide +kernel) (pa_cons (pv 3) pa_nil)) pa_nil)))))), ?_⟩
    have hp := ent_part hk
    have hl := ent_len hk h0 h1
    walk_at "rd"
    refine ⟨rfl, by decide +kernel, sz_le (by omega), fun p hp' => ?_⟩
    rw [hp]
    have k := Same.new (o := .tup [.str e.1, .str (Str.ofString ":"), .str (numT e.2)]) (Same.refl H) hp'
    have n60 := (num_len60 h0 h1).2
    refine ⟨_, SqT.of upd_same, rfl, _, _, rfl, _, _, rfl, _, _, rfl, rfl, numT e.2, rfl, e.2, num_int h0 h1, by omega, sz_le (by decide), fun t ht => ?_⟩
    exact q t _ (k.free ht) (k.trans (Same.new (Same.refl _) ht)) upd_same
theorem ok_law_urn {f : Addr} {fd : FuncData} (F : d_law_urn.Is K f fd) (T : Txt K mg) :
    FnOk P w K mg base CX0 1 f fd ["script"] (sp_law_urn K) := by
  refine F.ok sc_law_urn (fun vs H Q E h => ?_) (fun cdv A outer s H vs Q E hr h => ?_)
  · obtain ⟨a, ns, rfl, hs, hl, q⟩ := h
    rfl
  · obtain ⟨a, ns, rfl, hs, hl, q⟩ := h
    refine ⟨_, PSs.nox (pss_cons (ps_set (i := 1) sc_law_urn.nd rfl (Or.inl rfl) (pe_op op_pow pe_int pe_int))
        (pss_cons (ps_for PassesOwn.never rfl (pi_list (pe_slice sl_list (pv 0) po_none (po_some pe_int))) (pg_name (i := 2) sc_law_urn.nd rfl (Or.inl rfl))
          (pss_one (ps_set (i := 1) sc_law_urn.nd rfl (Or.inl rfl) (pe_op op_mod (pe_op op_add (pe_op op_mulW (pv 1) pe_int) (pv 2)) pe_int))))
        (pss_one (ps_ret (pe_lst (pa_cons (pe_lc (own := [("cell", 2)]) (g := gName 2) (by rfl) sc_law_urn.nd (pi_list (pe_slice sl_list (pv 0) po_none (po_some pe_int))) (blkOk_by (N := ["script", "swirl", "cell"]) (sc := defScope s_law_urn) (by decide +kernel)) (fun _ _ _ _ _ => (pg_name (i := 2) sc_law_urn.nd rfl (Or.inl rfl))) (fun _ _ _ _ _ => (pts_one (pt_cmpR op_ge (pe_callB call_abs (by rfl) T.n_abs (by decide +kernel) (pa_cons (pv 2) pa_nil)) (pe_op op_pow pe_int pe_int) (nomark _)))) (fun _ _ _ _ _ => (pe_callB call_abs (by rfl) T.n_abs (by decide +kernel) (pa_cons (pv 2) pa_nil)))) (pa_cons (pv 1) (pa_cons pe_int pa_nil)))))))), ?_⟩
    have M0 : (0 : Int) < 170141183460469231731687303715884105727 := by decide +kernel
    have M1 : (170141183460469231731687303715884105727 : Int) ≤ 10 ^ 60 := by decide +kernel
    refine cut_seq (fun σ H' => σ = [some (.ref a), some (.int (37 ^ Int.toNat 23)), none] ∧ H' = H) (fun N hN => ?_) ?_
    · walk_at "rd"
      exact ⟨⟨by decide, by decide, by decide +kernel⟩, hN _ _ ⟨rfl, rfl⟩⟩
    rintro σ1 H1 ⟨rfl, rfl⟩
    refine cut_seq (fun σ H' => ∃ (w : Int) (t2 : Option V), σ = [some (.ref a), some (.int w), t2] ∧ 0 ≤ w ∧ w ≤ 10 ^ 60 ∧ Same H1 H') (fun N hN => ?_) ?_
    · walk_at "rd"
      refine ⟨a, _, rfl, hs, fun l hl' => ?_⟩
      obtain ⟨us, hus, hsub, hlen⟩ := cut_ints ns none (some 40)
      rw [hus]
      have k1 := Same.new (o := .lst (us.map V.int)) (Same.refl H1) hl'
      refine ⟨l, rfl, ⟨_, SqL.of upd_same⟩, loop_list (us.map V.int) (fun j σ' H' => (∃ (w : Int) (t2 : Option V), σ' = [some (.ref a), some (.int w), t2] ∧ 0 ≤ w ∧ w ≤ 10 ^ 60) ∧ Same (upd H1 l (.lst (us.map V.int))) H') ⟨⟨_, _, rfl, by decide +kernel, by decide +kernel⟩, Same.refl _⟩ (fun j σ' H' _ k => SqL.of (k.2 _ _ upd_same)) ?_ ?_⟩
      · rintro j x σ' H' hj ⟨⟨w, t2, rfl, w0, w1⟩, e⟩
        rw [List.getElem?_map] at hj
        obtain ⟨x, hx, rfl⟩ := Option.map_eq_some_iff.mp hj
        simp only [gName, List.set_cons_succ, List.set_cons_zero]
        walk_at "rd"
        exact ⟨mulW_ok w0 (Int.le_trans w1 (by decide +kernel)) (by decide) (by decide +kernel), M0, ⟨_, _, ⟨rfl, rfl⟩, Int.emod_nonneg _ (by decide), Int.le_trans (Int.le_of_lt (Int.emod_lt_of_pos _ M0)) M1⟩, e⟩
      · rintro σ' H' ⟨⟨w, t2, rfl, w0, w1⟩, e⟩
        exact hN _ _ ⟨_, _, rfl, w0, w1, k1.trans e⟩
    rintro σ2 H2 ⟨w, t2, rfl, w0, w1, e2⟩
    walk_at "rd"
    refine ⟨a, _, rfl, sqL_same hs e2, fun l hl' => ?_⟩
    obtain ⟨us, hus, hsub, hlen⟩ := cut_ints ns none (some 40)
    rw [hus]
    have k1 := Same.new (o := .lst (us.map V.int)) e2 hl'
    have lA : upd H2 l (.lst (us.map V.int)) l = some (.lst (us.map V.int)) := upd_same
    generalize upd H2 l (.lst (us.map V.int)) = G at k1 lA ⊢
    refine ⟨l, rfl, ⟨_, SqL.of lA⟩, fun L hL => comp_list (us.map V.int) (fun j H9 => Same G H9 ∧ ∃ ys : List Int, H9 L = some (.lst (ys.map V.int)) ∧ (∀ y ∈ ys, 0 ≤ y) ∧ ys.length ≤ j) ⟨Same.new (Same.refl _) hL, [], upd_same, by simp, Nat.le_refl _⟩ (fun j H9 _ k => SqL.of (k.1 _ _ lA)) ?_ ?_⟩
    · rintro j x H9 hj ⟨e9, ys, g1, g2, g3⟩
      have hjl := (List.getElem?_eq_some_iff.mp hj).1
      rw [List.length_map] at hjl
      rw [List.getElem?_map] at hj
      obtain ⟨x, hx, rfl⟩ := Option.map_eq_some_iff.mp hj
      walk_at "rd"
      refine ⟨⟨by decide, by decide, by decide⟩, ite2 (fun h => ?_) (fun h => ?_)⟩
      · refine ⟨_, g1, sz_lt (by rw [List.length_map]; omega), Nb.Same.mut e9 hL, ys ++ [if x < 0 then -x else x], by rw [upd_same, List.map_append]; rfl, fun y hy => ?_, by rw [List.length_append, List.length_singleton]; omega⟩
        rcases List.mem_append.mp hy with h | h
        · exact g2 y h
        · rw [List.mem_singleton.mp h]
          split <;> omega
      · exact ⟨e9, ys, g1, g2, by omega⟩
    · rintro H9 ⟨e9, ys, g1, g2, g3⟩
      rw [List.length_map] at g3
      refine ⟨sz_le (by decide), fun p hp => ?_⟩
      have kk := k1.trans e9
      exact q p L _ (kk.free hp) (k1.free hL) (Same.new kk hp) ⟨ys, w, 0, upd_same, upd_keep g1 (ne_of_none g1 hp), g2, by omega, w0, w1, Int.le_refl _, Int.le_refl _⟩
theorem ok_law_lot {f : Addr} {fd : FuncData} (F : d_law_lot.Is K f fd) (T : Txt K mg) :
    FnOk P w K mg base CX0 1 f fd ["urn", "many"] (sp_law_lot K) := by
  refine F.ok sc_law_lot (fun vs H Q E h => ?_) (fun cdv A outer s H vs Q E hr h => ?_)
  · obtain ⟨fa, L, n, k, rfl, hj, hk, h0, hn, q⟩ := h
    rfl
  · obtain ⟨fa, L, n, k, rfl, hj, hk, h0, hn, q⟩ := h
    refine ⟨_, PSs.nox (pss_cons (ps_while PassesOwn.never (PW.pt (pw_and (pt_cmpR (op_neD hr.units) (pe_ix ix_list (pv 0) pe_int (fun _ _ => rfl)) (pe_lst pa_nil) (nomark _)) (pw_and1 (pt_cmpR op_lt (pe_ix ix_list (pe_ix ix_list (pv 0) pe_int (fun _ _ => rfl)) pe_int (fun _ _ => rfl)) pe_int (nomark _)))))
          (pss_one (ps_expr (pe_bm PySem.F.plainAttrs_list PySem.F.slot_list_pop PySem.F.type_list_pop mt_popAt (pe_ix ix_list (pv 0) pe_int (fun _ _ => rfl)) (pa_cons pe_int pa_nil)))))
        (pss_cons (ps_if (pt_cmpR (op_neD hr.units) (pe_ix ix_list (pv 0) pe_int (fun _ _ => rfl)) (pe_lst pa_nil) (nomark _))
          (pss_cons (ps_set (i := 2) sc_law_lot.nd rfl (Or.inl rfl) (pe_op op_mod (pe_ix ix_list (pe_ix ix_list (pv 0) pe_int (fun _ _ => rfl)) pe_int (fun _ _ => rfl)) (pv 1)))
          (pss_cons (ps_asg (pe_op op_fdivW (pe_ix ix_list (pe_ix ix_list (pv 0) pe_int (fun _ _ => rfl)) pe_int (fun _ _ => rfl)) (pv 1)) (pg_sub (pe_ix ix_list (pv 0) pe_int (fun _ _ => rfl)) pe_int set_list))
          (pss_one (ps_ret (pv 2)))))
          pss_nil)
        (pss_cons (ps_asg (pe_op op_add (pe_ix ix_list (pv 0) pe_int (fun _ _ => rfl)) pe_int) (pg_sub (pv 0) pe_int set_list))
        (pss_cons (ps_set (i := 3) sc_law_lot.nd rfl (Or.inl rfl) (pe_op op_add (pe_op op_mulW (pe_ix ix_list (pv 0) pe_int (fun _ _ => rfl)) (pe_ix ix_list (pv 0) pe_int (fun _ _ => rfl))) (pe_op op_mulW (pe_op op_mulW pe_int (pe_ix ix_list (pv 0) pe_int (fun _ _ => rfl))) (pe_ix ix_list (pv 0) pe_int (fun _ _ => rfl)))))
        (pss_cons (ps_asg (pe_op op_mod (pe_op op_add (pv 3) (pe_op op_mulW pe_int (pe_ix ix_list (pv 0) pe_int (fun _ _ => rfl)))) pe_int) (pg_sub (pv 0) pe_int set_list))
        (pss_cons (ps_set (i := 3) sc_law_lot.nd rfl (Or.inl rfl) (pe_op op_add (pe_op op_mulW (pe_ix ix_list (pv 0) pe_int (fun _ _ => rfl)) (pe_ix ix_list (pv 0) pe_int (fun _ _ => rfl))) (pe_op op_mulW pe_int (pe_ix ix_list (pv 0) pe_int (fun _ _ => rfl)))))
        (pss_one (ps_ret (pe_op op_mod (pe_op op_fdivW (pe_op op_add (pe_op op_mulW (pe_ix ix_list (pv 0) pe_int (fun _ _ => rfl)) (pe_op op_pow pe_int pe_int)) (pe_op op_mod (pv 3) pe_int)) (pe_op op_pow pe_int pe_int)) (pv 1)))))))))), ?_⟩
    obtain ⟨xs0, w, c, hf, hL, x0, xl, w0, w1, c0, c1⟩ := id hj
    have nfl := hj.fd.nfl
    have M0 : (0 : Int) < 170141183460469231731687303715884105727 := by decide +kernel
    have M1 : (170141183460469231731687303715884105727 : Int) ≤ 10 ^ 60 := by decide +kernel
    refine cut_seq (fun σ H' => σ = [some (.ref fa), some (.int n), none, none] ∧ ∃ xs : List Int, StU fa L 0 H H' ∧ H' fa = some (.lst [.ref L, .int w, .int c]) ∧ H' L = some (.lst (xs.map V.int)) ∧ (∀ x ∈ xs, 0 ≤ x) ∧ xs.length ≤ 100) (fun N hN => ?_) ?_
    · walk_at "rd"
      refine loop_wh (fun m σ H' => σ = [some (.ref fa), some (.int n), none, none] ∧ ∃ xs : List Int, StU fa L 0 H H' ∧ H' fa = some (.lst [.ref L, .int w, .int c]) ∧ H' L = some (.lst (xs.map V.int)) ∧ (∀ x ∈ xs, 0 ≤ x) ∧ xs.length ≤ 100 ∧ xs.length = m) xs0.length ⟨rfl, xs0, StU.refl hj.fd, hf, hL, x0, xl, rfl⟩ ?_
      rintro m σ' H' ⟨rfl, xs, e, g1, g2, g3, g4, rfl⟩
      walk_at "rd"
      refine ⟨_, SqL.of g1, _, rfl, sz_le (by decide), fun p1 hp1 => ?_⟩
      have k1 := Same.new (o := .lst []) (Same.refl H') hp1
      have e1 := e.same k1
      refine ne_ints (k1 _ _ g2) upd_same ⟨_, rfl, ?_⟩
      have g1' := k1 _ _ g1
      have g2' := k1 _ _ g2
      generalize upd H' p1 (.lst []) = G at e1 g1' g2' ⊢
      cases xs with
      | nil => exact ifN (by simp) (hN _ _ ⟨rfl, [], e1, g1', g2', g3, g4⟩)
      | cons x r =>
        refine ifP (by simp) ⟨_, SqL.of g1', _, rfl, L, rfl, _, SqL.of g2', .int x, atI_nat (j := 0) rfl, _, rfl, ite2 (fun h => ?_) (fun h => hN _ _ ⟨rfl, x :: r, e1, g1', g2', g3, g4⟩)⟩
        refine ⟨_, fun _ _ h => h, _, SqL.of g1', _, rfl, .inl ⟨rfl, _, SqL.of g2'⟩, L, _, 0, 0, .int x, rfl, rfl, g2', by decide, by decide, ?_, rfl, r.length, Nat.lt_succ_self _, rfl, ?_⟩
        · unfold seqIndex?
          simp
        · have r0 : ∀ y ∈ r, 0 ≤ y := fun y hy => g3 y (List.mem_cons_of_mem _ hy)
          have rl : r.length ≤ 100 := Nat.le_trans (Nat.le_succ _) g4
          exact ⟨e1.putL r0 rl, by rw [upd_ne nfl.symm]; exact g1', r, upd_same, r0, rl, rfl⟩
    rintro σ1 H1 ⟨rfl, xs, e1, hf1, hL1, y0, yl⟩
    walk_at "rd"
    refine ⟨_, SqL.of hf1, _, rfl, sz_le (by decide), fun p1 hp1 => ?_⟩
    have k1 := Same.new (o := .lst []) (Same.refl H1) hp1
    have e2 := e1.same k1
    refine ne_ints (k1 _ _ hL1) upd_same ⟨_, rfl, ?_⟩
    have g1 := k1 _ _ hf1
    have g2 := k1 _ _ hL1
    generalize upd H1 p1 (.lst []) = G at e2 g1 g2 ⊢
    cases xs with
    | cons x r =>
      refine ifP (by simp) ⟨_, SqL.of g1, _, rfl, L, rfl, _, SqL.of g2, .int x, atI_nat (j := 0) rfl, _, rfl, h0, _, SqL.of g1, _, rfl, L, rfl, _, SqL.of g2, .int x, atI_nat (j := 0) rfl, _, rfl, div_ok h0 hn, _, SqL.of g1, _, rfl, L, rfl, _, g2, 0, ?_, ?_⟩
      · unfold ixN
        simp
      · exact q _ _ (Int.emod_nonneg _ (by omega)) (Int.emod_lt_of_pos _ h0) ((e2.putL (ys := x / n :: r) (fun y hy => by
          rcases List.mem_cons.mp hy with rfl | hy
          · exact Int.ediv_nonneg (y0 x (List.mem_cons_self ..)) (by omega)
          · exact y0 y (List.mem_cons_of_mem _ hy)) yl).mono (by decide))
    | nil =>
      have sm : ∀ x : Int, 0 ≤ x → x ≤ 10 ^ 150 → x ≤ 10 ^ 200 := fun x _ h => Int.le_trans h (by decide +kernel)
      have w2 : w ≤ 10 ^ 200 := Int.le_trans w1 (by decide +kernel)
      have cc : c + 1 ≤ 10 ^ 200 := Int.le_trans (b := 10 ^ 7) (by omega) (by decide +kernel)
      have c6 : 60101 * (c + 1) ≤ 10 ^ 200 := Int.le_trans (b := 10 ^ 12) (by omega) (by decide +kernel)
      refine ifN (by simp) ⟨_, SqL.of g1, _, rfl, _, rfl, _, g1, _, rfl, _, SqL.of upd_same, _, rfl, _, SqL.of upd_same, _, rfl, _, rfl, _, rfl, mulW_ok w0 w2 w0 w2, _, SqL.of upd_same, _, rfl, _, rfl, mulW_ok (by decide) (by decide +kernel) (by omega) cc, _, SqL.of upd_same, _, rfl, ?_⟩
      have mm := fun v : Int => Int.emod_nonneg v (show (170141183460469231731687303715884105727 : Int) ≠ 0 by decide)
      have mn := fun v : Int => Int.le_trans (Int.le_of_lt (Int.emod_lt_of_pos v M0)) M1
      have mo := fun v : Int => Int.le_trans (mn v) (show (10 : Int) ^ 60 ≤ 10 ^ 200 by decide +kernel)
      refine ⟨_, rfl, mulW_ok (by omega) c6 (by omega) cc, _, SqL.of upd_same, _, rfl, _, rfl, mulW_ok (by decide) (by decide +kernel) (by omega) cc, M0, _, upd_same, _, rfl, _, SqL.of upd_same, _, rfl, _, SqL.of upd_same, _, rfl, _, rfl, _, rfl, mulW_ok (mm _) (mo _) (mm _) (mo _), _, SqL.of upd_same, _, rfl, _, rfl, mulW_ok (by decide) (by decide +kernel) (by omega) cc, _, SqL.of upd_same, _, rfl, ⟨by decide, by decide, by decide⟩, _, rfl, mulW_ok (mm _) (mo _) (by decide +kernel) (by decide +kernel), M0, ⟨by decide, by decide, by decide⟩, div_ok (by decide) (by decide +kernel), h0, ?_⟩
      have F := fun (w' : Int) (h1 : 0 ≤ w') (h2 : w' ≤ 10 ^ 60) => fun k (j : UrnL k H fa L) => show 0 ≤ w' ∧ w' ≤ 10 ^ 60 ∧ 0 ≤ c + 1 ∧ c + 1 ≤ ((k + 1 : Nat) : Int) from by
        have := j.at hf hL
        omega
      exact q _ _ (Int.emod_nonneg _ (by omega)) (Int.emod_lt_of_pos _ h0) (((e2.mono (Nat.zero_le 1)).putF (F w w0 w1)).putF (F _ (mm _) (mn _)))
theorem ok_law_names {f : Addr} {fd : FuncData} (F : d_law_names.Is K f fd) (T : Txt K mg)
    (c_law_lot : C8.Cal P w K mg base 1 "_law_lot" (sp_law_lot K) []) :
    FnOk P w K mg base CX0 2 f fd ["urn", "most"] (sp_law_names K) := by
  refine F.ok sc_law_names (fun vs H Q E h => ?_) (fun cdv A outer s H vs Q E hr h => ?_)
  · obtain ⟨fa, L, m, k, rfl, hj, hk, m0, m1, q⟩ := h
    rfl
  · obtain ⟨fa, L, m, k, rfl, hj, hk, m0, m1, q⟩ := h
    refine ⟨_, PSs.nox (pss_cons (ps_set (i := 2) sc_law_names.nd rfl (Or.inl rfl) (pe_lst pa_nil))
        (pss_cons (ps_for PassesOwn.never rfl (pi_range1 (by rfl) T.n_range (pa_cons (pe_op op_add pe_int (C8.pe_c c_law_lot hr (by decide) (by rfl) (pa_cons (pv 0) (pa_cons (pv 1) pa_nil)))) pa_nil)) (pg_name (i := 3) sc_law_names.nd rfl (Or.inl rfl))
          (pss_cons (ps_par (i := 4) (j := 5) (by rfl) sc_law_names.nd rfl rfl (by decide) rfl rfl (pa_cons (C8.pe_c c_law_lot hr (by decide) (by rfl) (pa_cons (pv 0) (pa_cons pe_int pa_nil))) (pa_cons pe_str pa_nil)) (by rfl))
          (pss_cons (ps_for PassesOwn.never rfl (pi_range1 (by rfl) T.n_range (pa_cons (pv 4) pa_nil)) (pg_name (i := 6) sc_law_names.nd rfl (Or.inl rfl))
            (pss_one (ps_set (i := 5) sc_law_names.nd rfl (Or.inl rfl) (pe_op op_add_str (pv 5) (pe_ix ix_str pe_str (C8.pe_c c_law_lot hr (by decide) (by rfl) (pa_cons (pv 0) (pa_cons pe_int pa_nil))) (fun _ _ => rfl))))))
          (pss_one (ps_expr (pe_bm PySem.F.plainAttrs_list PySem.F.slot_list_append PySem.F.type_list_append mt_append (pv 2) (pa_cons (pe_op op_add_str (pv 5) (pe_ix ix_str pe_str (pv 3) (fun _ _ => rfl))) pa_nil)))))))
        (pss_one (ps_ret (pv 2))))), ?_⟩
    walk_at "rd"
    refine ⟨Nat.zero_le _, fun p hp => ?_⟩
    obtain ⟨np1, np2⟩ := hj.fd.ne hp
    have e0 : StU fa L 0 H (upd H p (.lst [])) := (StU.refl hj.fd).new hp
    refine ⟨fa, L, m, k, rfl, e0.jr k hj, by omega, by omega, Int.le_trans m1 (by decide +kernel), fun r H1 r0 r1 e1 => ⟨_, rfl, by omega, by omega, ?_⟩⟩
    have hpA : H1 p = some (.lst (([] : List Str).map V.str)) := e1.kp _ _ np1 np2 upd_same
    have hp0 : H p = none := hp
    refine loop_rng (fun i σ' H' => (∃ (t3 t4 t5 t6 : Option V) (ns : List Str), σ' = [some (.ref fa), some (.int m), some (.ref p), t3, t4, t5, t6] ∧ H' p = some (.lst (ns.map V.str)) ∧ ns.length = i ∧ NmL ns) ∧ StU fa L (1 + 8 * i) H H') ⟨⟨_, _, _, _, [], rfl, hpA, rfl, fun j n hj => by simp at hj⟩, (e0.trans e1).mono (by omega)⟩ ?_ ?_
    · rintro i σ' H' hi ⟨⟨t3, t4, t5, t6, ns, rfl, g1, g2, g3⟩, e⟩
      have hi12 : i < 12 := by omega
      simp only [gName, List.set_cons_succ, List.set_cons_zero]
      refine cut_seq (fun σ G => ∃ many : Nat, σ = [some (.ref fa), some (.int m), some (.ref p), some (.int (i : Int)), some (.int (many : Int)), some (.str (Str.ofString "")), t6] ∧ many ≤ 7 ∧ G p = some (.lst (ns.map V.str)) ∧ StU fa L (1 + 8 * i + 1) H G) (fun N hN => ?_) ?_
      · walk_at "rd"
        refine ⟨fa, L, 8, _, rfl, e.jr k hj, by omega, by decide, by decide +kernel, fun r H2 r0 r1 e2 => ?_⟩
        obtain ⟨r, rfl⟩ : ∃ k : Nat, r = (k : Int) := ⟨r.toNat, by omega⟩
        exact ⟨_, _, ⟨rfl, rfl⟩, hN _ _ ⟨r, rfl, by omega, e2.kp _ _ np1 np2 g1, e.trans e2⟩⟩
      rintro σ2 H2 ⟨many, rfl, hm7, hp2, e2⟩
      refine cut_seq (fun σ G => ∃ (z : Str) (t6 : Option V), σ = [some (.ref fa), some (.int m), some (.ref p), some (.int (i : Int)), some (.int (many : Int)), some (.str z), t6] ∧ lowL z ∧ z.length = many ∧ G p = some (.lst (ns.map V.str)) ∧ StU fa L (1 + 8 * i + 1 + many) H G) (fun N hN => ?_) ?_
      · walk_at "rd"
        refine ⟨by omega, by omega, loop_rng (fun j σ' H' => (∃ (z : Str) (t6 : Option V), σ' = [some (.ref fa), some (.int m), some (.ref p), some (.int (i : Int)), some (.int (many : Int)), some (.str z), t6] ∧ lowL z ∧ z.length = j ∧ H' p = some (.lst (ns.map V.str))) ∧ StU fa L (1 + 8 * i + 1 + j) H H') ⟨⟨_, _, rfl, low_nil, rfl, hp2⟩, e2⟩ ?_ ?_⟩
        · rintro j σ' H' hj' ⟨⟨z, t6, rfl, z1, z2, g⟩, e'⟩
          have hj7 : j < 7 := by omega
          simp only [gName, List.set_cons_succ, List.set_cons_zero]
          walk_at "rd"
          refine ⟨fa, L, 26, _, rfl, e'.jr k hj, by omega, by decide, by decide +kernel, fun r G r0 r1 g' => ?_⟩
          obtain ⟨r, rfl⟩ : ∃ k : Nat, r = (k : Int) := ⟨r.toNat, by omega⟩
          refine ⟨_, _, 97 + r, rfl, rfl, by decide +kernel, atI_nat (az_at r (by omega)), _, rfl, sz_le (by rw [z2]; show j + 1 ≤ 100000; omega), ?_⟩
          exact ⟨⟨_, _, ⟨rfl, rfl⟩, lowc_app z1 (by omega) (by omega), by rw [len_app1, z2], g'.kp _ _ np1 np2 g⟩, (e'.trans g').mono (by omega)⟩
        · rintro σ' H' ⟨⟨z, t6, rfl, z1, z2, g⟩, e'⟩
          exact hN _ _ ⟨z, _, rfl, z1, by omega, g, e'.mono (by omega)⟩
      rintro σ3 H3 ⟨z, t6, rfl, z1, z2, hp3, e3⟩
      walk_at "rd"
      refine ⟨.inl ⟨rfl, _, SqL.of hp3⟩, _, _, 97 + i, rfl, rfl, by decide +kernel, atI_nat (al_at i hi12), _, rfl, sz_le (by rw [z2]; show many + 1 ≤ 100000; omega), p, _, _, rfl, rfl, hp3, sz_lt (by rw [List.length_map]; omega), ⟨_, _, _, _, ⟨rfl, rfl, rfl, rfl⟩, ns ++ [z ++ ⟨#[97 + i]⟩], by rw [upd_same, List.map_append]; rfl, by rw [List.length_append, g2]; rfl, ?_⟩, (e3.mut hp0 np1 np2).mono (by omega)⟩
      have := g3.app z1 (by omega) (by omega)
      rw [g2] at this
      exact this
    · rintro σ' H' ⟨⟨t3, t4, t5, t6, ns, rfl, g1, g2, g3⟩, e⟩
      walk_at "rd"
      exact q p ns H' hp0 (e.mono (by omega)) g1 (g3.crew (by omega) (by omega)) (by omega)
theorem ok_law_log {f : Addr} {fd : FuncData} (F : d_law_log.Is K f fd) (T : Txt K mg)
    (c_mk_LosingLog : C8.Mak P w K mg base 5 "LosingLog" (He.ga K "LosingLog") (sp_Log_init K) [])
    (c_mk_Log : C8.Mak P w K mg base 5 "Log" (He.ga K "Log") (sp_Log_init K) []) :
    FnOk P w K mg base CX0 7 f fd ["wide", "names", "rows", "is_losing"] (sp_law_log K) := by
  refine F.ok sc_law_log (fun vs H Q E h => ?_) (fun cdv A outer s H vs Q E hr h => ?_)
  · obtain ⟨b, z, c, s', ns, es, rfl, hw, hc, hs, q⟩ := h
    rfl
  · obtain ⟨b, z, c, s', ns, es, rfl, hw, hc, hs, q⟩ := h
    refine ⟨_, PSs.nox (pss_cons (ps_if (pt_val (pv 3))
          (pss_one (ps_ret (C8.pe_mk c_mk_LosingLog hr (by decide) (by rfl) (pa_cons (pv 0) (pa_cons (pe_callTy call_list_of (by rfl) T.n_list (by decide +kernel) (pa_cons (pv 1) pa_nil)) (pa_cons (pe_callTy call_list_of (by rfl) T.n_list (by decide +kernel) (pa_cons (pv 2) pa_nil)) pa_nil))))))
          pss_nil)
        (pss_one (ps_ret (C8.pe_mk c_mk_Log hr (by decide) (by rfl) (pa_cons (pv 0) (pa_cons (pe_callTy call_list_of (by rfl) T.n_list (by decide +kernel) (pa_cons (pv 1) pa_nil)) (pa_cons (pe_callTy call_list_of (by rfl) T.n_list (by decide +kernel) (pa_cons (pv 2) pa_nil)) pa_nil))))))), ?_⟩
    walk_at "rd"
    obtain ⟨ts, g1, g2⟩ := hs
    cases b with
    | true => exact ifP rfl ⟨_, .inl (SqL.of hc), fun l hl => ⟨_, .inl (SqL.of ((Same.new (Same.refl H) hl) _ _ g1)), fun l2 hl2 => mk_new (b := true) hw (show CrewAt (upd (upd H l (.lst (ns.map V.str))) l2 (.lst (ts.map V.ref))) l ns from upd_keep upd_same (ne_of_none upd_same hl2)) ⟨ts, upd_same, g2.imp fun t xs h => (Same.new (Same.new (Same.refl H) hl) hl2) _ _ h⟩ fun p H' hp e hX => q p H' ((Same.new (Same.new (Same.refl H) hl) hl2).free hp) ((Same.new (Same.new (Same.refl H) hl) hl2).trans e) hX⟩⟩
    | false => exact ifN (by decide) ⟨_, .inl (SqL.of hc), fun l hl => ⟨_, .inl (SqL.of ((Same.new (Same.refl H) hl) _ _ g1)), fun l2 hl2 => mk_new (b := false) hw (show CrewAt (upd (upd H l (.lst (ns.map V.str))) l2 (.lst (ts.map V.ref))) l ns from upd_keep upd_same (ne_of_none upd_same hl2)) ⟨ts, upd_same, g2.imp fun t xs h => (Same.new (Same.new (Same.refl H) hl) hl2) _ _ h⟩ fun p H' hp e hX => q p H' ((Same.new (Same.new (Same.refl H) hl) hl2).free hp) ((Same.new (Same.new (Same.refl H) hl) hl2).trans e) hX⟩⟩
theorem ok_law_rows {f : Addr} {fd : FuncData} (F : d_law_rows.Is K f fd) (T : Txt K mg)
    (c_law_lot : C8.Cal P w K mg base 1 "_law_lot" (sp_law_lot K) []) :
    FnOk P w K mg base CX0 2 f fd ["urn", "names", "many"] (sp_law_rows K) := by
  refine F.ok sc_law_rows (fun vs H Q E h => ?_) (fun cdv A outer s H vs Q E hr h => ?_)
  · obtain ⟨fa, L, c, m, ns, k, rfl, hu, hk, hc, hcr, m0, m1, q⟩ := h
    rfl
  · obtain ⟨fa, L, c, m, ns, k, rfl, hu, hk, hc, hcr, m0, m1, q⟩ := h
    refine ⟨_, PSs.nox (pss_cons (ps_set (i := 3) sc_law_rows.nd rfl (Or.inl rfl) (pe_lst pa_nil))
        (pss_cons (ps_for PassesOwn.never rfl (pi_range1 (by rfl) T.n_range (pa_cons (pv 2) pa_nil)) (pg_name (i := 4) sc_law_rows.nd rfl (Or.inl rfl))
          (pss_cons (ps_set (i := 5) sc_law_rows.nd rfl (Or.inl rfl) (pe_ix ix_list (pe_lst (pa_cons (C8.pe_c c_law_lot hr (by decide) (by rfl) (pa_cons (pv 0) (pa_cons pe_int pa_nil))) (pa_cons (C8.pe_c c_law_lot hr (by decide) (by rfl) (pa_cons (pv 0) (pa_cons (pe_op op_pow pe_int pe_int) pa_nil))) (pa_cons (pe_op op_sub (pe_op op_pow pe_int pe_int) pe_int) (pa_cons pe_int pa_nil))))) (C8.pe_c c_law_lot hr (by decide) (by rfl) (pa_cons (pv 0) (pa_cons pe_int pa_nil))) (fun _ _ => rfl)))
          (pss_one (ps_expr (pe_bm PySem.F.plainAttrs_list PySem.F.slot_list_append PySem.F.type_list_append mt_append (pv 3) (pa_cons (pe_tup (pa_cons (pe_ix ix_list (pv 1) (C8.pe_c c_law_lot hr (by decide) (by rfl) (pa_cons (pv 0) (pa_cons (pe_callB call_len_seq (by rfl) T.n_len (by decide +kernel) (pa_cons (pv 1) pa_nil)) pa_nil))) (fun _ _ => rfl)) (pa_cons (pv 5) pa_nil))) pa_nil))))))
        (pss_one (ps_ret (pv 3))))), ?_⟩
    have n1 := hcr.few.1
    have n12 := hcr.few.2
    have f0 := hu.fd
    have b60 : (10 : Int) ^ Int.toNat 60 = 10 ^ 60 := by decide +kernel
    walk_at "rd"
    refine ⟨sz_le (by decide), fun p hp => ⟨by omega, by omega, ?_⟩⟩
    obtain ⟨np1, np2⟩ := f0.ne hp
    have e0 : StU fa L 0 H (upd H p (.lst [])) := (StU.refl f0).new hp
    refine loop_rng (fun i σ' H' => (∃ t4 t5, σ' = [some (.ref fa), some (.ref c), some (.int m), some (.ref p), t4, t5]) ∧ ∃ (ts : List Addr) (es : List En), H' p = some (.lst (ts.map V.ref)) ∧ Ents H' ts es ∧ es.length = i ∧ (∀ e ∈ es, e.1 ∈ ns ∧ 0 ≤ e.2) ∧ Small es ∧ StU fa L (4 * i) H H') ⟨⟨_, _, rfl⟩, [], [], upd_same, trivial, rfl, fun e h => by simp at h, fun e h => by simp at h, e0⟩ ?_ ?_
    · rintro i σ' H' hi ⟨⟨t4, t5, rfl⟩, ts, es, g1, g2, g3, g4, g5, e⟩
      have tl := g2.len
      simp only [gName, List.set_cons_succ, List.set_cons_zero]
      refine cut_seq (fun σ G => ∃ x : Int, σ = [some (.ref fa), some (.ref c), some (.int m), some (.ref p), some (.int (i : Int)), some (.int x)] ∧ 0 ≤ x ∧ x < 10 ^ 60 ∧ StU fa L (4 * i + 3) H G ∧ StU fa L 3 H' G) (fun N hN => ?_) ?_
      · walk_at "rd"
        refine ⟨fa, L, 9, _, rfl, e.jr k hu, by omega, by decide, by decide +kernel, fun r1 G1 a0 a1 e1 => ⟨⟨by decide, by decide, by decide⟩, fa, L, _, _, rfl, (e.trans e1).jr k hu, by omega, by decide +kernel, by decide +kernel, fun r2 G2 c0 c1 e2 => ⟨⟨by decide, by decide, by decide⟩, sz_le (by decide), fun q1 hq1 => ?_⟩⟩⟩
        rw [b60] at c1 ⊢
        have X := (e1.trans e2).same (Same.new (o := .lst [V.int r1, .int r2, .int (10 ^ 60 - 1), .int 0]) (Same.refl G2) hq1)
        obtain ⟨nq1, nq2⟩ := (e1.trans e2).ne hq1
        refine ⟨fa, L, 4, _, rfl, (e.trans X).jr k hu, by omega, by decide, by decide +kernel, fun r3 G3 d0 d1 e3 => ?_⟩
        have hq' := e3.kp _ _ nq1 nq2 upd_same
        have XX := X.trans e3
        have g60 : (9 : Int) < 10 ^ 60 := by decide +kernel
        have g61 : (0 : Int) ≤ 10 ^ 60 - 1 := by decide +kernel
        rcases (by omega : r3 = 0 ∨ r3 = 1 ∨ r3 = 2 ∨ r3 = 3) with rfl | rfl | rfl | rfl
        · exact ⟨_, 0, rfl, SqL.of hq', .int r1, rfl, hN _ _ ⟨r1, rfl, a0, by omega, (e.trans XX).mono (by omega), XX.mono (by omega)⟩⟩
        · exact ⟨_, 1, rfl, SqL.of hq', .int r2, rfl, hN _ _ ⟨r2, rfl, c0, c1, (e.trans XX).mono (by omega), XX.mono (by omega)⟩⟩
        · exact ⟨_, 2, rfl, SqL.of hq', .int (10 ^ 60 - 1), rfl, hN _ _ ⟨_, rfl, g61, by omega, (e.trans XX).mono (by omega), XX.mono (by omega)⟩⟩
        · exact ⟨_, 3, rfl, SqL.of hq', .int 0, rfl, hN _ _ ⟨0, rfl, by decide, by omega, (e.trans XX).mono (by omega), XX.mono (by omega)⟩⟩
      rintro σ2 H2 ⟨x, rfl, x0, x1, e2, e23⟩
      have fu' : Fu H' fa L := e.fd
      have hp2 := e23.kp _ _ np1 np2 g1
      have hc2 := e2.crew f0 n1 hc
      walk_at "rd"
      refine ⟨.inl ⟨rfl, _, SqL.of hp2⟩, _, .inl (SqL.of hc2), fa, L, _, _, rfl, e2.jr k hu, by omega, by rw [List.length_map]; omega, Int.le_trans (b := 12) (by rw [List.length_map]; omega) (by decide +kernel), fun r G r0 r1 eG => ?_⟩
      rw [List.length_map] at r1
      obtain ⟨w0, rfl⟩ : ∃ w : Nat, r = (w : Int) := ⟨r.toNat, by omega⟩
      have hwl : w0 < ns.length := by omega
      have hcG := (e2.trans eG).crew f0 n1 hc
      have hpG := eG.kp _ _ np1 np2 hp2
      refine ⟨_, _, rfl, SqL.of hcG, .str ns[w0], atI_nat (by rw [List.getElem?_map, List.getElem?_eq_getElem hwl]; rfl), sz_le (by decide), fun t ht => ?_⟩
      have kt := Same.new (o := .tup [V.str ns[w0], .int x]) (Same.refl G) ht
      have hpT := kt _ _ hpG
      have kk : ∀ t' xs, H' t' = some (.tup xs) → upd G t (.tup [V.str ns[w0], .int x]) t' = some (.tup xs) := fun t' xs h => kt _ _ ((e23.trans eG).kt fu' h)
      have k2 : ∀ t' xs, upd G t (.tup [V.str ns[w0], .int x]) t' = some (.tup xs) → upd (upd G t (.tup [V.str ns[w0], .int x])) p (.lst (ts.map V.ref ++ [.ref t])) t' = some (.tup xs) := fun t' xs h => upd_keep h (ne_of h hpT (by simp))
      refine ⟨p, _, _, rfl, rfl, hpT, sz_lt (by rw [List.length_map]; omega), by
        first
        | exact ⟨_, _, rfl⟩
        | exact ⟨_, _, rfl, rfl⟩
        | exact ⟨_, _, ⟨rfl, rfl⟩⟩
        | exact ⟨_, rfl⟩, ts ++ [t], by rw [upd_same, List.map_append]; rfl, es ++ [(ns[w0], x)], Ents.app (e := (ns[w0], x)) (k2 _ _ upd_same) ((g2.imp kk).imp k2), by rw [List.length_append, g3]; rfl, fun e' he => ?_, fun e' he => ?_, (((e2.trans eG).same kt).mut hp np1 np2).mono (by omega)⟩
      · rcases List.mem_append.mp he with h | h
        · exact g4 e' h
        · rw [List.mem_singleton.mp h]
          exact ⟨List.getElem_mem hwl, x0⟩
      · rcases List.mem_append.mp he with h | h
        · exact g5 e' h
        · rw [List.mem_singleton.mp h]
          exact x1
    · rintro σ' H' ⟨⟨t4, t5, rfl⟩, ts, es, g1, g2, g3, g4, g5, e⟩
      walk_at "rd"
      exact q p es H' hp (e.mono (by omega)) ⟨ts, g1, g2⟩ (by omega) g4 g5
theorem ok_law_text {f : Addr} {fd : FuncData} (F : d_law_text.Is K f fd) (T : Txt K mg) :
    FnOk P w K mg base CX0 1 f fd ["wide", "names", "rows", "is_losing"] (sp_law_text K) := by
  refine F.ok sc_law_text (fun vs H Q E h => ?_) (fun cdv A outer s H vs Q E hr h => ?_)
  · obtain ⟨b, z, c, s', ns, es, rfl, hw, hsm, hc, hs, q⟩ := h
    rfl
  · obtain ⟨b, z, c, s', ns, es, rfl, hw, hsm, hc, hs, q⟩ := h
    refine ⟨_, PSs.nox (pss_cons (ps_set (i := 4) sc_law_text.nd rfl (Or.inl rfl) (pe_lst (pa_cons (pe_ix ix_list (pe_lst (pa_cons pe_str (pa_cons pe_str pa_nil))) (pe_callTy call_int1 (by rfl) T.n_int (by decide +kernel) (pa_cons (pv 3) pa_nil)) (fun _ _ => rfl)) (pa_cons (pe_callTy call_str_int (by rfl) T.n_str (by decide +kernel) (pa_cons (pv 0) pa_nil)) (pa_cons (pe_bm PySem.F.plainAttrs_str PySem.F.slot_str_join PySem.F.type_str_join mt_join pe_str (pa_cons (pv 1) pa_nil)) pa_nil)))))
        (pss_one (ps_ret (pe_bm PySem.F.plainAttrs_str PySem.F.slot_str_join PySem.F.type_str_join mt_join pe_str (pa_cons (pe_op op_cat (pv 4) (pe_lc (own := [("name", 5), ("value", 6)]) (g := gTup K 2 (gCons (gName 5) (gCons (gName 6) gNil))) (tt := tYes) (by rfl) sc_law_text.nd (pi_list (pv 2)) (blkOk_by (N := ["wide", "names", "rows", "is_losing", "words", "name", "value"]) (sc := defScope s_law_text) (by decide +kernel)) (fun _ _ _ _ _ => (pg_tupK (K := K) rfl (by rfl) (pgs_cons (pg_name (i := 5) sc_law_text.nd rfl (Or.inl rfl)) (pgs_cons (pg_name (i := 6) sc_law_text.nd rfl (Or.inl rfl)) pgs_nil)))) (fun _ _ _ _ _ => pts_nil) (fun _ _ _ _ _ => (pe_op op_add_str (pe_op op_add_str (pv 5) pe_str) (pe_callTy call_str_int (by rfl) T.n_str (by decide +kernel) (pa_cons (pv 6) pa_nil)))))) pa_nil))))), ?_⟩
    have pos := wf_pos hw
    have zs := int_small (i := z) (by have := hw.sz.1; omega) (Int.le_trans hw.sz.2 (by decide +kernel))
    have nl : ∀ n ∈ ns, n.length ≤ 8 := fun n hn => name_len (hw.cr.ok n hn)
    have n12 := hw.cr.few.2
    have nsum := sum_le (fun x : Str => x.length) 8 ns nl
    have es2 := fun e he => int_small (pos e he) (small100 hsm e he)
    have few := hw.en.few
    obtain ⟨ts, g1, g2⟩ := id hs
    have tl := g2.len
    refine cut_seq (fun σ H' => ∃ wl, σ = [some (.int z), some (.ref c), some (.ref s'), some (.bl b), some (.ref wl), none, none] ∧ H' wl = some (.lst ([kindS b, Str.ofString (toString z), Txt.join (Str.ofString ",") ns].map V.str)) ∧ Same H H') (fun N hN => ?_) ?_
    · walk_at "rd"
      refine ⟨sz_le (by decide), fun p hp => .inr ?_⟩
      have k1 := Same.new (o := .lst [V.str (Str.ofString "steady"), V.str (Str.ofString "losing")]) (Same.refl H) hp
      have at1 : atI [V.str (Str.ofString "steady"), V.str (Str.ofString "losing")] (if b = true then 1 else 0) = some (.str (kindS b)) := by cases b <;> rfl
      refine ⟨_, SqL.of upd_same, _, at1, zs.1, rfl, ns, .inl (SqL.of (k1 _ _ hc)), ?_, sz_le (by decide), fun wl hwl => hN _ _ ⟨wl, rfl, upd_same, k1.trans (Same.new (Same.refl _) hwl)⟩⟩
      rw [show (Str.ofString ",").length = 1 by decide +kernel]
      omega
    rintro σ1 H1 ⟨wl, rfl, hwl, e1⟩
    walk_at "rd"
    have e0 : (Str.ofString ":").length = 1 := by decide +kernel
    refine ⟨rfl, ⟨_, SqL.of (e1 _ _ g1)⟩, fun L hL => comp_list (ts.map V.ref) (fun j H9 => Same H1 H9 ∧ H9 L = some (.lst (((es.take j).map entT).map V.str))) ⟨Same.new (Same.refl _) hL, upd_same⟩ (fun j H9 _ k => SqL.of ((e1.trans k.1) _ _ g1)) ?_ ?_⟩
    · rintro j x H9 hj ⟨e9, h1⟩
      rw [List.getElem?_map] at hj
      obtain ⟨t, ht, rfl⟩ := Option.map_eq_some_iff.mp hj
      obtain ⟨en, hen, hut⟩ := g2.get ht
      have hne := List.mem_of_getElem? hen
      rw [List.take_add_one, hen, List.map_append, List.map_append]
      have i2 := es2 en hne
      have n8 := nl en.1 ((ens_nm hw.en) en hne)
      walk_at "rd"
      refine ⟨_, SqT.of ((e1.trans e9) _ _ hut), rfl, _, _, rfl, _, _, rfl, rfl, en.1, rfl, sz_le (by omega), en.2, rfl, i2.1, sz_le (by rw [len_app]; omega), _, h1, sz_lt (by rw [List.length_map, List.length_map, List.length_take]; omega), Nb.Same.mut e9 hL, ?_⟩
      rw [upd_same]
      show some (HO.lst (_ ++ [V.str (en.1 ++ Str.ofString ":" ++ numT en.2)])) = some (HO.lst (_ ++ [V.str (entT en)]))
      rw [entT_eq]
    · rintro H9 ⟨e9, h1⟩
      rw [List.length_map, tl, List.take_length] at h1
      refine ⟨wl, L, _, _, rfl, rfl, e9 _ _ hwl, h1, sz_le (by rw [List.length_map, List.length_map, List.length_map]; show 3 + es.length ≤ 100000; omega), fun p hp => ⟨p, rfl, wordsL b z ns es, .inl (SqL.of ?_), ?_, q _ ((e1.trans e9).trans (Same.new (Same.refl _) hp))⟩⟩
      · rw [upd_same, ← List.map_append]
        rfl
      · have hsum := sum_le (fun x : Str => x.length) 2000 (wordsL b z ns es) fun w hw' => words_len zs.2 nl n12 (fun e he => (es2 e he).2) (fun e he => nl e.1 (ens_nm hw.en e he)) hw'
        have hlen := wordsL_len b z ns es
        rw [hlen] at hsum
        rw [show (Str.ofString " ").length = 1 by decide +kernel, hlen]
        omega
theorem ok_law_right {f : Addr} {fd : FuncData} (F : d_law_right.Is K f fd) (T : Txt K mg)
    (c_law_log : C8.Cal P w K mg base 7 "_law_log" (sp_law_log K) [])
    (c_law_text : C8.Cal P w K mg base 1 "_law_text" (sp_law_text K) [])
    (c_write_log : C8.Cal P w K mg base 3 "write_log" (sp_write_log K) [])
    (cf_write_log : NbZ.CalF P w K mg base 3 "write_log" ["log"] gV_write_log (sp_write_log K))
    (c_read_log : C8.Cal P w K mg base 8 "read_log" (sp_read_log K) [])
    (cf_read_log : NbZ.CalF P w K mg base 8 "read_log" ["text"] gV_read_log (sp_read_log K))
    (c_Log_size : C8.CalAt P w K mg base 1 (d_Log_size.way K) (sp_Log_size K))
    (c_Log_servers : C8.CalAt P w K mg base 1 (d_Log_servers.way K) (sp_Log_servers K))
    (c_Log_entries : C8.CalAt P w K mg base 1 (d_Log_entries.way K) (sp_Log_entries K))
    (c_Log_eq : C8.CalAt P w K mg base 3 (d_Log_eq.way K) (sp_Log_eq K)) :
    NbR.FnG P w K mg base 9 f fd ["wide", "names", "rows", "is_losing"] (sp_law_right K) := by
  refine NbR.fnG_of F sc_law_right (fun vs H Q E h => ?_) (fun cdv A outer s H vs Q E hg0 hr h => ?_)
  · obtain ⟨b, z, c, s', ns, es, rfl, hw, hsm, hc, hs, q⟩ := h
    rfl
  · obtain ⟨b, z, c, s', ns, es, rfl, hw, hsm, hc, hs, q⟩ := h
    refine ⟨_, PSs.nox (pss_cons (ps_set (i := 4) sc_law_right.nd rfl (Or.inl rfl) (C8.pe_c c_law_log hr (by decide) (by rfl) (pa_cons (pv 0) (pa_cons (pv 1) (pa_cons (pv 2) (pa_cons (pv 3) pa_nil))))))
        (pss_cons (ps_set (i := 5) sc_law_right.nd rfl (Or.inl rfl) (C8.pe_c c_law_text hr (by decide) (by rfl) (pa_cons (pv 0) (pa_cons (pv 1) (pa_cons (pv 2) (pa_cons (pv 3) pa_nil))))))
        (pss_cons (ps_if (pt_cmpR (op_neD hr.units) (pe_lst (pa_cons (C8.pe_c c_write_log hr (by decide) (by rfl) (pa_cons (pv 4) pa_nil)) (pa_cons (pe_cK0 cf_write_log hr (by decide) (by rfl) (pk_cons (pv 4) pk_nil)) pa_nil))) (pe_lst (pa_cons (pv 5) (pa_cons (pv 5) pa_nil))) (nomark _))
          (pss_one (ps_ret pe_bl))
          pss_nil)
        (pss_cons (ps_for PassesOwn.never rfl (pi_range1 (by rfl) T.n_range (pa_cons pe_int pa_nil)) (pg_name (i := 6) sc_law_right.nd rfl (Or.inl rfl))
          (pss_cons (ps_set (i := 7) sc_law_right.nd rfl (Or.inl rfl) (pe_ifExp (pt_cmpR op_eq (pv 6) pe_int (nomark _)) (C8.pe_c c_read_log hr (by decide) (by rfl) (pa_cons (pv 5) pa_nil)) (pe_cK0 cf_read_log hr (by decide) (by rfl) (pk_cons (pv 5) pk_nil))))
          (pss_cons (ps_if (pt_cmpR op_ne (pe_callB (call_repD hg0 hr.units) (by rfl) T.n_repr (by decide +kernel) (pa_cons (pe_lst (pa_cons (pe_prp2 T.p_size c_Log_size hr (by decide) (pv 7)) (pa_cons (pe_prp2 T.p_servers c_Log_servers hr (by decide) (pv 7)) (pa_cons (pe_prp2 T.p_entries c_Log_entries hr (by decide) (pv 7)) pa_nil)))) pa_nil)) (pe_callB (call_repD hg0 hr.units) (by rfl) T.n_repr (by decide +kernel) (pa_cons (pe_lst (pa_cons (pv 0) (pa_cons (pv 1) (pa_cons (pv 2) pa_nil)))) pa_nil)) (nomark _))
            (pss_one (ps_ret pe_bl))
            pss_nil)
          (pss_cons (ps_if (pt_not (pt_cmpR (two_eq T.two c_Log_eq (hr.mono (by decide))) (pv 7) (pv 4) (nomark _)))
            (pss_one (ps_ret pe_bl))
            pss_nil)
          (pss_cons (ps_if (PW.pt (pw_or (pt_cmpR op_ne (pe_callB call_isi (by rfl) T.n_isinstance (by decide +kernel) (pa_cons (pv 7) (pa_cons (C8.pe_gc (by rfl) T.g_LosingLog) pa_nil))) (pv 3) (nomark _)) (pw_or1 (pt_cmpR op_ne (C8.pe_c c_write_log hr (by decide) (by rfl) (pa_cons (pv 7) pa_nil)) (pv 5) (nomark _)))))
            (pss_one (ps_ret pe_bl))
            pss_nil)
          (pss_one (ps_for PassesOwn.never rfl (pi_list (pe_lst (pa_cons (pe_prp2 T.p_servers c_Log_servers hr (by decide) (pv 7)) (pa_cons (pe_prp2 T.p_entries c_Log_entries hr (by decide) (pv 7)) pa_nil)))) (pg_name (i := 8) sc_law_right.nd rfl (Or.inl rfl))
            (pss_cons (ps_expr (pe_bm PySem.F.plainAttrs_list PySem.F.slot_list_append PySem.F.type_list_append mt_append (pv 8) (pa_cons pe_int pa_nil)))
            (pss_one (ps_expr (pe_bm0 PySem.F.plainAttrs_list PySem.F.slot_list_reverse PySem.F.type_list_reverse mt_reverse (pv 8))))))))))))
        (pss_one (ps_ret (pe_cmpR op_eq (C8.pe_c c_write_log hr (by decide) (by rfl) (pa_cons (pv 4) pa_nil)) (pv 5) (nomark _)))))))), ?_⟩
    have sl := shw_log hw.sz hw.cr hw.en hsm
    have s100 := small100 hsm
    obtain ⟨W, hW⟩ : ∃ W, W = Txt.join (Str.ofString " ") (wordsL b z ns es) := ⟨_, rfl⟩
    refine cut_seq (fun σ H' => ∃ p, σ = [some (.int z), some (.ref c), some (.ref s'), some (.bl b), some (.ref p), none, none, none, none] ∧ LogAt K H' p b z ns es ∧ Same H H') (fun N hN => ?_) ?_
    · walk_at "rd"
      exact ⟨b, z, c, s', ns, es, rfl, hw, hc, hs, fun p H' hp e hX => hN _ _ ⟨p, rfl, hX, e⟩⟩
    rintro σ1 H1 ⟨p, rfl, hp, e1⟩
    refine cut_seq (fun σ H' => σ = [some (.int z), some (.ref c), some (.ref s'), some (.bl b), some (.ref p), some (.str W), none, none, none] ∧ Same H1 H') (fun N hN => ?_) ?_
    · walk_at "rd"
      exact ⟨b, z, c, s', ns, es, rfl, hw, hsm, hc.same e1, hs.same e1, fun H' e => hN _ _ ⟨by rw [hW], e⟩⟩
    rintro σ2 H2 ⟨rfl, e2⟩
    refine cut_seq (fun σ H' => σ = [some (.int z), some (.ref c), some (.ref s'), some (.bl b), some (.ref p), some (.str W), none, none, none] ∧ Same H2 H') (fun N hN => ?_) ?_
    · walk_at "rd"
      refine ⟨p, b, z, ns, es, rfl, hp.same e2, s100, fun G1 g1 => ⟨p, b, z, ns, es, rfl, (hp.same e2).same g1, s100, fun G2 g2 => ⟨sz_le (by decide), fun q1 h1 => ⟨sz_le (by decide), fun q2 h2 => ?_⟩⟩⟩⟩
      rw [← hW] at h2 ⊢
      have k1 := Same.new (o := .lst [V.str W, .str W]) (Same.refl G2) h1
      have k2 := Same.new (o := .lst [V.str W, .str W]) (Same.refl _) h2
      have sh : SeqAt.shaped (.list [.str W, .str W]) = true := by
        unfold SeqAt.shaped
        rw [Bool.and_eq_true]
        refine ⟨?_, decide_eq_true (by show max 0 (max 0 0) + 1 ≤ 64; decide)⟩
        show (PyData.strOk W && (PyData.strOk W && true)) = true
        rw [hW, join_ok hw]
        rfl
      refine ⟨.list [.str W, .str W], .list [.str W, .str W], .lst (SqL.of (k2 _ _ upd_same)) (.cons (.str _) (.cons (.str _) .nil)), .lst (SqL.of upd_same) (.cons (.str _) (.cons (.str _) .nil)), sh, sh, _, rfl, ifN ?_ (hN _ _ ⟨rfl, g1.trans (g2.trans (k1.trans k2))⟩)⟩
      rw [lay_shaped sh]
      decide
    rintro σ3 H3 ⟨rfl, e3⟩
    have E3 := (e1.trans e2).trans e3
    have hp3 := hp.same (e2.trans e3)
    refine cut_seq (fun σ H' => ∃ t6 t7 t8, σ = [some (.int z), some (.ref c), some (.ref s'), some (.bl b), some (.ref p), some (.str W), t6, t7, t8] ∧ Same H3 H') (fun N hN => ?_) ?_
    · walk_at "rd"
      refine ⟨by decide, by decide, loop_rng (fun i σ' H' => (∃ t6 t7 t8, σ' = [some (.int z), some (.ref c), some (.ref s'), some (.bl b), some (.ref p), some (.str W), t6, t7, t8]) ∧ Same H3 H') ⟨⟨_, _, _, rfl⟩, Same.refl _⟩ ?_ ?_⟩
      · rintro i σ' H' hi ⟨⟨t6, t7, t8, rfl⟩, e⟩
        simp only [gName, List.set_cons_succ, List.set_cons_zero]
        refine cut_seq (fun σ G => ∃ bk, σ = [some (.int z), some (.ref c), some (.ref s'), some (.bl b), some (.ref p), some (.str W), some (.int (i : Int)), some (.ref bk), t8] ∧ LogAt K G bk b z ns es ∧ Same H' G) (fun N2 hN2 => ?_) ?_
        · walk_at "rd"
          refine eq_int ⟨_, rfl, ?_⟩
          have rd : ∀ Q' : VK, (∀ bk G, LogAt K G bk b z ns es → Same H' G → Q' (.ref bk) G) → sp_read_log K [.str W] H' Q' C8.E0 := fun Q' h => ⟨b, z, ns, es, by rw [hW], hw, hsm, fun bk G _ g hX => h bk G hX g⟩
          refine ite2 (fun _ => rd _ fun bk G hX g => hN2 _ _ ⟨bk, rfl, hX, g⟩) (fun _ => rd _ fun bk G hX g => hN2 _ _ ⟨bk, rfl, hX, g⟩)
        rintro σ4 H4 ⟨bk, rfl, hb4, e4⟩
        refine cut_seq (fun σ G => σ = [some (.int z), some (.ref c), some (.ref s'), some (.bl b), some (.ref p), some (.str W), some (.int (i : Int)), some (.ref bk), t8] ∧ Same H4 G) (fun N2 hN2 => ?_) ?_
        · walk_at "rd"
          obtain ⟨dx, _, _, hq, _⟩ := id hb4
          refine ⟨b, dx, _, hq, bk, b, z, ns, es, rfl, hb4, b, dx, _, hq, bk, b, z, ns, es, rfl, hb4, fun a1 J1 _ f1 hA => ⟨b, dx, _, f1 _ _ hq, bk, b, z, ns, es, rfl, hb4.same f1, fun a2 J2 _ f2 hE => ⟨sz_le (by decide), fun l hl => ?_⟩⟩⟩
          have k1 := Same.new (o := .lst [V.int z, .ref a1, .ref a2]) (Same.refl J2) hl
          have EE := E3.trans (e.trans (e4.trans (f1.trans (f2.trans k1))))
          refine ⟨l, logD z ns es, rfl, .lst (SqL.of upd_same) (.cons (.int _) (.cons (hA.same (f2.trans k1)).dp (.cons (hE.same k1).dp .nil))), sl.1, sl.2.1, sl.2.2.1, sl.2.2.2, sz_le (by decide), fun l2 hl2 => ?_⟩
          have k2 := Same.new (o := .lst [V.int z, .ref c, .ref s']) (Same.refl _) hl2
          exact ⟨l2, logD z ns es, rfl, .lst (SqL.of upd_same) (.cons (.int _) (.cons (hc.same (EE.trans k2)).dp (.cons (hs.same (EE.trans k2)).dp .nil))), sl.1, sl.2.1, sl.2.2.1, sl.2.2.2, rfl, _, rfl, ifN (by simp) (hN2 _ _ ⟨rfl, f1.trans (f2.trans (k1.trans k2))⟩)⟩
        rintro σ5 H5 ⟨rfl, e5⟩
        have hb5 := hb4.same e5
        have hp5 := hp3.same (e.trans (e4.trans e5))
        refine cut_seq (fun σ G => σ = [some (.int z), some (.ref c), some (.ref s'), some (.bl b), some (.ref p), some (.str W), some (.int (i : Int)), some (.ref bk), t8] ∧ Same H5 G) (fun N2 hN2 => ?_) ?_
        · walk_at "rd"
          exact two_logs T.lf hb5 hp5 ⟨_, rfl, ifN (by simp) (hN2 _ _ ⟨rfl, Same.refl _⟩)⟩
        rintro σ6 H6 ⟨rfl, e6⟩
        have hb6 := hb5.same e6
        refine cut_seq (fun σ G => σ = [some (.int z), some (.ref c), some (.ref s'), some (.bl b), some (.ref p), some (.str W), some (.int (i : Int)), some (.ref bk), t8] ∧ Same H6 G) (fun N2 hN2 => ?_) ?_
        · walk_at "rd"
          refine (isi_l T.lf hb6.knd true ?_)
          rw [show isLogOf (.log b) true = b by cases b <;> rfl]
          exact ⟨rfl, _, rfl, ifN (by simp) ⟨bk, b, z, ns, es, rfl, hb6, s100, fun G g => ⟨rfl, _, rfl, ifN (by rw [hW]; simp) (hN2 _ _ ⟨rfl, g⟩)⟩⟩⟩
        rintro σ7 H7 ⟨rfl, e7⟩
        have hb7 := hb6.same e7
        have E7 := e.trans (e4.trans (e5.trans (e6.trans e7)))
        walk_at "rd"
        obtain ⟨dx, _, _, hq, _⟩ := id hb7
        refine ⟨b, dx, _, hq, bk, b, z, ns, es, rfl, hb7, fun a1 J1 h1 f1 hA => ⟨b, dx, _, f1 _ _ hq, bk, b, z, ns, es, rfl, hb7.same f1, fun a2 J2 h2 f2 hE => ⟨sz_le (by decide), fun l hl => ⟨⟨_, SqL.of upd_same⟩, ?_⟩⟩⟩⟩
        obtain ⟨ts2, g1, g2⟩ := hE
        have k1 := Same.new (o := .lst [V.ref a1, .ref a2]) (Same.refl J2) hl
        have E := (f1.trans f2).trans k1
        have A1 := (f2.trans k1) _ _ (show J1 a1 = some (.lst (ns.map V.str)) from hA)
        have A2 := k1 _ _ g1
        have L0 : upd J2 l (.lst [V.ref a1, .ref a2]) l = some (.lst [V.ref a1, .ref a2]) := upd_same
        have n1 : l ≠ a1 := (ne_of_none (f2 _ _ (show J1 a1 = some (.lst (ns.map V.str)) from hA)) hl).symm
        have n2 : l ≠ a2 := (ne_of_none g1 hl).symm
        have n12 : a1 ≠ a2 := ne_of_none hA h2
        have r1 : H7 a1 = none := h1
        have r2 : H7 a2 = none := f1.free h2
        have c1 := hw.cr.few.2
        have c2 := hw.en.few
        generalize upd J2 l (.lst [V.ref a1, .ref a2]) = G at E A1 A2 L0 ⊢
        refine loop_list [V.ref a1, .ref a2] (fun j σ' H' => (∃ t7, σ' = [some (.int z), some (.ref c), some (.ref s'), some (.bl b), some (.ref p), some (.str W), some (.int (i : Int)), some (.ref bk), t7]) ∧ Same H7 H' ∧ H' l = some (.lst [V.ref a1, .ref a2]) ∧ ∃ xs ys : List V, H' a1 = some (.lst xs) ∧ H' a2 = some (.lst ys) ∧ xs.length ≤ 300 + j ∧ ys.length ≤ 300 + j) ⟨⟨_, rfl⟩, E, L0, _, _, A1, A2, by rw [List.length_map]; omega, by rw [List.length_map, g2.len]; omega⟩ (fun j σ' H' _ k => SqL.of k.2.2.1) ?_ ?_
        · rintro j x σ' H' hi ⟨⟨t7, rfl⟩, e, w0, xs, ys, w1, w2, w3, w4⟩
          have hi2 : j < 2 := (List.getElem?_eq_some_iff.mp hi).1
          simp only [gName, List.set_cons_succ, List.set_cons_zero]
          rcases (by omega : j = 0 ∨ j = 1) with rfl | rfl
          · cases hi
            walk_at "rd"
            have m1 := Nb.Same.mut (o := .lst (xs ++ [V.int 0])) e r1
            have m2 := Nb.Same.mut (o := .lst (xs ++ [V.int 0]).reverse) m1 r1
            exact ⟨.inl ⟨rfl, _, SqL.of w1⟩, a1, _, _, rfl, rfl, w1, sz_lt (by omega), .inl ⟨rfl, _, SqL.of upd_same⟩, a1, _, rfl, rfl, upd_same, ⟨_, rfl⟩, m2, upd_keep (upd_keep w0 n1) n1, _, upd_same, _, upd_keep (upd_keep w2 n12.symm) n12.symm, by rw [List.length_reverse, List.length_append, List.length_singleton]; omega, by omega⟩
          · cases hi
            walk_at "rd"
            have m1 := Nb.Same.mut (o := .lst (ys ++ [V.int 0])) e r2
            have m2 := Nb.Same.mut (o := .lst (ys ++ [V.int 0]).reverse) m1 r2
            exact ⟨.inl ⟨rfl, _, SqL.of w2⟩, a2, _, _, rfl, rfl, w2, sz_lt (by omega), .inl ⟨rfl, _, SqL.of upd_same⟩, a2, _, rfl, rfl, upd_same, ⟨_, rfl⟩, m2, upd_keep (upd_keep w0 n2) n2, _, upd_keep (upd_keep w1 n12) n12, _, upd_same, by omega, by rw [List.length_reverse, List.length_append, List.length_singleton]; omega⟩
        · rintro σ' H' ⟨⟨t7, rfl⟩, e, _⟩
          exact ⟨by
            first
            | exact ⟨_, _, _, rfl⟩
            | exact ⟨_, _, rfl, rfl⟩
            | exact ⟨_, _, _, ⟨rfl, rfl, rfl⟩⟩, E7.trans e⟩
      · rintro σ' H' ⟨⟨t6, t7, t8, rfl⟩, e⟩
        exact hN _ _ ⟨_, _, _, rfl, e⟩
    rintro σ4 H4 ⟨t6, t7, t8, rfl, e4⟩
    walk_at "rd"
    refine ⟨p, b, z, ns, es, rfl, hp3.same e4, s100, fun G g => ⟨rfl, ?_⟩⟩
    rw [← hW, show decide (V.str W = V.str W) = true from decide_eq_true rfl]
    exact q _ (E3.trans (e4.trans g))
theorem ok_law {f : Addr} {fd : FuncData} (F : d_law.Is K f fd) (T : Txt K mg)
    (c_law_urn : C8.Cal P w K mg base 1 "_law_urn" (sp_law_urn K) [])
    (c_law_lot : C8.Cal P w K mg base 1 "_law_lot" (sp_law_lot K) [])
    (c_law_names : C8.Cal P w K mg base 2 "_law_names" (sp_law_names K) [])
    (c_law_rows : C8.Cal P w K mg base 2 "_law_rows" (sp_law_rows K) [])
    (c_law_right : NbR.CalG P w K mg base 9 "_law_right" (sp_law_right K))
    (c_mk_Log : C8.Mak P w K mg base 5 "Log" (He.ga K "Log") (sp_Log_init K) [])
    (c_write_log : C8.Cal P w K mg base 3 "write_log" (sp_write_log K) [])
    (c_Log_entries : C8.CalAt P w K mg base 1 (d_Log_entries.way K) (sp_Log_entries K))
    (c_read_log : C8.Cal P w K mg base 8 "read_log" (sp_read_log K) []) :
    NbR.FnG P w K mg base 10 f fd ["script"] (sp_law K) := by
  refine NbR.fnG_of F sc_law (fun vs H Q E h => ?_) (fun cdv A outer s H vs Q E hg0 hr h => ?_)
  · obtain ⟨a, xs, rfl, hs, hl, q⟩ := h
    rfl
  · obtain ⟨a, xs, rfl, hs, hl, q⟩ := h
    refine ⟨_, PSs.nox (pss_cons (ps_set (i := 1) sc_law.nd rfl (Or.inl rfl) (C8.pe_c c_law_urn hr (by decide) (by rfl) (pa_cons (pv 0) pa_nil)))
        (pss_cons (ps_for PassesOwn.never rfl (pi_range1 (by rfl) T.n_range (pa_cons (pe_op op_add pe_int (pe_op op_mul pe_int (pe_callB (call_min2 rfl) (by rfl) T.n_min (by decide +kernel) (pa_cons (pe_callB call_len_seq (by rfl) T.n_len (by decide +kernel) (pa_cons (pv 0) pa_nil)) (pa_cons pe_int pa_nil))))) pa_nil)) (pg_name (i := 2) sc_law.nd rfl (Or.inl rfl))
          (pss_cons (ps_set (i := 3) sc_law.nd rfl (Or.inl rfl) (pe_ix ix_list (pe_lst (pa_cons (pe_op op_add pe_int (C8.pe_c c_law_lot hr (by decide) (by rfl) (pa_cons (pv 1) (pa_cons (pe_op op_pow pe_int pe_int) pa_nil)))) (pa_cons (pe_op op_pow pe_int pe_int) (pa_cons pe_int (pa_cons (pe_op op_add pe_int (C8.pe_c c_law_lot hr (by decide) (by rfl) (pa_cons (pv 1) (pa_cons pe_int pa_nil)))) pa_nil))))) (C8.pe_c c_law_lot hr (by decide) (by rfl) (pa_cons (pv 1) (pa_cons pe_int pa_nil))) (fun _ _ => rfl)))
          (pss_cons (ps_set (i := 4) sc_law.nd rfl (Or.inl rfl) (C8.pe_c c_law_names hr (by decide) (by rfl) (pa_cons (pv 1) (pa_cons pe_int pa_nil))))
          (pss_cons (ps_par (i := 5) (j := 6) (by rfl) sc_law.nd rfl rfl (by decide) rfl rfl (pa_cons (C8.pe_c c_law_rows hr (by decide) (by rfl) (pa_cons (pv 1) (pa_cons (pv 4) (pa_cons (C8.pe_c c_law_lot hr (by decide) (by rfl) (pa_cons (pv 1) (pa_cons pe_int pa_nil))) pa_nil)))) (pa_cons (pe_cmpR op_eq (C8.pe_c c_law_lot hr (by decide) (by rfl) (pa_cons (pv 1) (pa_cons pe_int pa_nil))) pe_int (nomark _)) pa_nil)) (by rfl))
          (pss_one (ps_if (pt_not (pt_val (pe_cG c_law_right hg0 hr (by decide) (by rfl) (pa_cons (pv 3) (pa_cons (pv 4) (pa_cons (pv 5) (pa_cons (pv 6) pa_nil)))))))
            (pss_one (ps_ret pe_bl))
            pss_nil))))))
        (pss_cons (ps_set (i := 4) sc_law.nd rfl (Or.inl rfl) (C8.pe_c c_law_names hr (by decide) (by rfl) (pa_cons (pv 1) (pa_cons pe_int pa_nil))))
        (pss_cons (ps_if (pt_not (pt_val (pe_cG c_law_right hg0 hr (by decide) (by rfl) (pa_cons pe_int (pa_cons (pv 4) (pa_cons (C8.pe_c c_law_rows hr (by decide) (by rfl) (pa_cons (pv 1) (pa_cons (pv 4) (pa_cons pe_int pa_nil)))) (pa_cons (pe_cmpR op_eq (C8.pe_c c_law_lot hr (by decide) (by rfl) (pa_cons (pv 1) (pa_cons pe_int pa_nil))) pe_int (nomark _)) pa_nil)))))))
          (pss_one (ps_ret pe_bl))
          pss_nil)
        (pss_cons (ps_set (i := 7) sc_law.nd rfl (Or.inl rfl) (C8.pe_mk c_mk_Log hr (by decide) (by rfl) (pa_cons pe_int (pa_cons (pe_lst (pa_cons pe_str (pa_cons pe_str pa_nil))) (pa_cons (pe_lst (pa_cons (pe_tup (pa_cons pe_str (pa_cons pe_int pa_nil))) (pa_cons (pe_tup (pa_cons pe_str (pa_cons pe_int pa_nil))) pa_nil))) pa_nil)))))
        (pss_one (ps_ret (pe_and (pe_cmpR op_eq (C8.pe_c c_write_log hr (by decide) (by rfl) (pa_cons (pv 7) pa_nil)) pe_str (nomark _)) (pe_one (pe_cmpR (op_eqD hr.units) (pe_prp2 T.p_entries c_Log_entries hr (by decide) (C8.pe_c c_read_log hr (by decide) (by rfl) (pa_cons pe_str pa_nil))) (pe_lst pa_nil) (nomark _))))))))))), ?_⟩
    refine cut_seq (fun σ H' => ∃ fa L, σ = [some (.ref a), some (.ref fa), none, none, none, none, none, none] ∧ UrnL 0 H' fa L ∧ Same H H') (fun N hN => ?_) ?_
    · walk_at "rd"
      exact ⟨a, xs, rfl, hs, hl, fun fa L H' h1 h2 e hj => hN _ _ ⟨fa, L, rfl, hj, e⟩⟩
    rintro σ1 H1 ⟨fa, L, rfl, hj, e1⟩
    refine cut_seq (fun σ H' => ∃ t2 t3 t4 t5 t6, σ = [some (.ref a), some (.ref fa), t2, t3, t4, t5, t6, none] ∧ StU fa L 40000 H1 H') (fun N hN => ?_) ?_
    · walk_at "rd"
      refine ⟨_, .inl (sqL_same hs e1), _, _, ⟨rfl, rfl⟩, .inl ⟨by decide, by decide⟩, by split <;> omega, by split <;> omega, loop_rng (fun i σ' H' => (∃ t2 t3 t4 t5 t6, σ' = [some (.ref a), some (.ref fa), t2, t3, t4, t5, t6, none]) ∧ StU fa L (1100 * i) H1 H') ⟨⟨_, _, _, _, _, rfl⟩, StU.refl hj.fd⟩ ?_ ?_⟩
      · rintro i σ' H0 hi ⟨⟨t2, t3, t4, t5, t6, rfl⟩, e⟩
        have hi2 : i < 14 := by
          revert hi
          split <;> omega
        simp only [gName, List.set_cons_succ, List.set_cons_zero]
        have j0 := e.jr 0 hj
        have f0 := j0.fd
        refine cut_seq (fun σ H2 => ∃ z : Int, σ = [some (.ref a), some (.ref fa), some (.int (i : Int)), some (.int z), t4, t5, t6, none] ∧ SizeOk z ∧ StU fa L 3 H0 H2) (fun N2 hN2 => ?_) ?_
        · walk_at "rd"
          refine ⟨⟨by decide, by decide, by decide⟩, fa, L, _, _, rfl, j0, by omega, by decide +kernel, by decide +kernel, fun r0 G1 a0 a1 g1 => ⟨r0, rfl, ⟨by decide, by decide, by decide⟩, fa, L, 99, _, rfl, g1.jr _ j0, by omega, by decide, by decide +kernel, fun r1 G2 b0 b1 g2 => ⟨r1, rfl, sz_le (by decide), fun p hp => ?_⟩⟩⟩
          have b30 : (10 : Int) ^ Int.toNat 30 = 10 ^ 30 := by decide +kernel
          have h100 : (100 : Int) ≤ 10 ^ 30 := by decide +kernel
          have X := (g1.trans g2).same (Same.new (o := .lst [.int (1 + r0), .int (10 ^ Int.toNat 30), .int 1, .int (1 + r1)]) (Same.refl G2) hp)
          have npf := (g1.trans g2).fd.ne hp
          refine ⟨fa, L, 4, _, rfl, X.jr _ j0, by omega, by decide, by decide +kernel, fun r2 G3 c0 c1 g3 => ?_⟩
          have hp' := g3.kp _ _ npf.1 npf.2 upd_same
          have XX := (X.trans g3).mono (show _ ≤ 3 by omega)
          rcases (by omega : r2 = 0 ∨ r2 = 1 ∨ r2 = 2 ∨ r2 = 3) with rfl | rfl | rfl | rfl
          · exact ⟨_, 0, rfl, SqL.of hp', _, rfl, hN2 _ _ ⟨1 + r0, rfl, ⟨by omega, by rw [b30] at a1; omega⟩, XX⟩⟩
          · exact ⟨_, 1, rfl, SqL.of hp', _, rfl, hN2 _ _ ⟨10 ^ Int.toNat 30, rfl, ⟨by rw [b30]; decide +kernel, by rw [b30]; exact Int.le_refl _⟩, XX⟩⟩
          · exact ⟨_, 2, rfl, SqL.of hp', _, rfl, hN2 _ _ ⟨1, rfl, ⟨by decide, by decide +kernel⟩, XX⟩⟩
          · exact ⟨_, 3, rfl, SqL.of hp', _, rfl, hN2 _ _ ⟨1 + r1, rfl, ⟨by omega, by omega⟩, XX⟩⟩
        rintro σ2 H2 ⟨z, rfl, hz, e2⟩
        refine cut_seq (fun σ H3 => ∃ c ns, σ = [some (.ref a), some (.ref fa), some (.int (i : Int)), some (.int z), some (.ref c), t5, t6, none] ∧ CrewAt H3 c ns ∧ Crew ns ∧ StU fa L 113 H0 H3) (fun N2 hN2 => ?_) ?_
        · walk_at "rd"
          exact ⟨fa, L, 12, _, rfl, e2.jr _ j0, by omega, by decide, by decide, fun c ns G hc g hC hcr _ => hN2 _ _ ⟨c, ns, rfl, hC, hcr, (e2.trans g).mono (by omega)⟩⟩
        rintro σ3 H3 ⟨c, ns, rfl, hc, hcr, e3⟩
        refine cut_seq (fun σ H4 => ∃ s b es, σ = [some (.ref a), some (.ref fa), some (.int (i : Int)), some (.int z), some (.ref c), some (.ref s), some (.bl b), none] ∧ CrewAt H4 c ns ∧ EntsAt H4 s es ∧ es.length ≤ 31 ∧ (∀ e ∈ es, e.1 ∈ ns ∧ 0 ≤ e.2) ∧ Small es ∧ StU fa L 1090 H0 H4) (fun N2 hN2 => ?_) ?_
        · walk_at "rd"
          have n1 := hcr.few.1
          refine ⟨fa, L, 31, _, rfl, e3.jr _ j0, by omega, by decide, by decide +kernel, fun m G1 a0 a1 g1 => ?_⟩
          have X1 := e3.trans g1
          refine ⟨fa, L, c, m, ns, _, rfl, X1.jr _ j0, by omega, g1.crew e3.fd n1 hc, hcr, a0, by omega, fun s es G2 hs0 g2 hE hl nm sm => ?_⟩
          have X2 := X1.trans g2
          obtain ⟨ns1, ns2⟩ := X1.fd.ne hs0
          refine ⟨fa, L, 2, _, rfl, X2.jr _ j0, by omega, by decide, by decide +kernel, fun r G3 b0 b1 g3 => eq_int ⟨_, _, ⟨rfl, rfl⟩, hN2 _ _ ⟨s, _, es, rfl, ?_, g3.ents X2.fd ns1 ns2 hE, by omega, nm, sm, (X2.trans g3).mono (by omega)⟩⟩⟩
          exact g3.crew X2.fd n1 (g2.crew X1.fd n1 (g1.crew e3.fd n1 hc))
        rintro σ4 H4 ⟨s, b, es, rfl, hc4, hs4, few, nm, sm, e4⟩
        walk_at "rd"
        refine ⟨b, z, c, s, ns, es, rfl, ⟨hz, hcr, ens_of (by omega) nm⟩, sm, hc4, hs4, fun G g => ⟨_, rfl, ifN (by decide) ⟨⟨_, rfl⟩, (e.trans (e4.same g)).mono (by omega)⟩⟩⟩
      · rintro σ' H' ⟨⟨t2, t3, t4, t5, t6, rfl⟩, e⟩
        refine hN _ _ ⟨_, _, _, _, _, rfl, e.mono ?_⟩
        split <;> omega
    rintro σ2 H2 ⟨t2, t3, t4, t5, t6, rfl, e2⟩
    have j2 := e2.jr 0 hj
    refine cut_seq (fun σ H3 => ∃ c ns, σ = [some (.ref a), some (.ref fa), t2, t3, some (.ref c), t5, t6, none] ∧ CrewAt H3 c ns ∧ Crew ns ∧ StU fa L 110 H2 H3) (fun N2 hN2 => ?_) ?_
    · walk_at "rd"
      exact ⟨fa, L, 3, _, rfl, j2, by omega, by decide, by decide, fun c ns G hc g hC hcr _ => hN2 _ _ ⟨c, ns, rfl, hC, hcr, g⟩⟩
    rintro σ3 H3 ⟨c, ns, rfl, hc, hcr, e3⟩
    refine cut_seq (fun σ H4 => σ = [some (.ref a), some (.ref fa), t2, t3, some (.ref c), t5, t6, none]) (fun N2 hN2 => ?_) ?_
    · walk_at "rd"
      have n1 := hcr.few.1
      have j3 := e3.jr _ j2
      refine ⟨fa, L, c, 200, ns, _, rfl, j3, by omega, hc, hcr, by decide, by decide, fun s es G2 hs0 g2 hE hl nm sm => ?_⟩
      obtain ⟨ns1, ns2⟩ := e3.fd.ne hs0
      refine ⟨fa, L, 2, _, rfl, g2.jr _ j3, by omega, by decide, by decide +kernel, fun r G3 b0 b1 g3 => eq_int ⟨_, 1, c, s, ns, es, rfl, ⟨⟨by decide, by decide +kernel⟩, hcr, ens_of (by omega) nm⟩, sm, g3.crew g2.fd n1 (g2.crew e3.fd n1 hc), g3.ents g2.fd ns1 ns2 hE, fun G g => ⟨_, rfl, ifN (by decide) (hN2 _ _ rfl)⟩⟩⟩
    rintro σ4 H4 rfl
    walk_at "rd"
    refine ⟨sz_le (by decide), fun q0 h0 => ⟨sz_le (by decide), fun q1 h1 => ⟨sz_le (by decide), fun q2 h2 => ⟨sz_le (by decide), fun q3 h3 => ?_⟩⟩⟩⟩
    have s1 := Same.new (o := .tup [V.str (Str.ofString "ann"), V.int 5]) (Same.refl _) h1
    have s2 := Same.new (o := .tup [V.str (Str.ofString "bob"), V.int 230]) (Same.refl _) h2
    have s3 := Same.new (o := .lst [V.ref q1, V.ref q2]) (Same.refl _) h3
    refine mk_at (K := K) (b := false) (ns := [Str.ofString "ann", Str.ofString "bob"]) (es := fixE) fix_wf ((s1.trans (s2.trans s3)) _ _ upd_same) ⟨[q1, q2], upd_same, (s2.trans s3) _ _ upd_same, s3 _ _ upd_same, trivial⟩ fun x H' hx e hX => ?_
    refine ⟨x, false, 100, _, fixE, rfl, hX, by decide +kernel, fun G g => ⟨rfl, _, rfl, ifP ?_ ?_⟩⟩
    · rw [fix_text]
      simp
    · refine ⟨true, 1, [Str.ofString "a"], [], by rw [fix_text2], ⟨⟨by decide, by decide +kernel⟩, ⟨by decide +kernel, by decide +kernel, by decide +kernel⟩, ⟨by decide, (fun e he => by cases he)⟩⟩, (fun e he => by cases he), fun x2 H2 _ e2 hX2 => ?_⟩
      obtain ⟨dx, _, _, hq, _⟩ := id hX2
      refine ⟨x2, rfl, true, dx, _, hq, x2, true, 1, _, [], rfl, hX2, fun a1 J1 _ f1 hE => ⟨sz_le (by decide), fun l hl => ?_⟩⟩
      obtain ⟨ts, g1, g2⟩ := hE
      have hts : ts = [] := List.eq_nil_of_length_eq_zero g2.len
      subst hts
      have k := Same.new (o := .lst []) (Same.refl J1) hl
      refine ⟨_, _, .lst (SqL.of (k _ _ g1)) .nil, .lst (SqL.of upd_same) .nil, by decide +kernel, by decide +kernel, ?_⟩
      rw [show PyData.eqv (.list []) (.list []) = true by decide +kernel]
      exact q _
end

theorem txt_of {K : PySem.W.Frag} {h : Heap} {mg : Str → Option Value} (X : K.In h) (G : h.Ns mainGlobals mg) (hl : (lfL K).all id = true) (hf : (fax K).all id = true) : Txt K mg := by
  have lf0 : LF K := lf_of hl
  exact {
    n_len := He.free_ok X G (all_at hf 34)
    n_max := He.free_ok X G (all_at hf 35)
    n_min := He.free_ok X G (all_at hf 36)
    n_abs := He.free_ok X G (all_at hf 37)
    n_int := He.free_ok X G (all_at hf 38)
    n_bool := He.free_ok X G (all_at hf 39)
    n_str := He.free_ok X G (all_at hf 40)
    n_list := He.free_ok X G (all_at hf 41)
    n_tuple := He.free_ok X G (all_at hf 42)
    n_dict := He.free_ok X G (all_at hf 43)
    n_isinstance := He.free_ok X G (all_at hf 44)
    n_all := He.free_ok X G (all_at hf 45)
    n_any := He.free_ok X G (all_at hf 46)
    n_repr := He.free_ok X G (all_at hf 47)
    n_range := He.free_ok X G (all_at hf 48)
    n_enumerate := He.free_ok X G (all_at hf 49)
    n_zip := He.free_ok X G (all_at hf 50)
    n_sorted := He.free_ok X G (all_at hf 51)
    n_set := He.free_ok X G (all_at hf 52)
    n_sum := He.free_ok X G (all_at hf 53)
    n_reversed := He.free_ok X G (all_at hf 54)
    g_GREATEST_SIZE := (by obtain ⟨t, e⟩ := He.int_ok X G (all_at hf 55); exact ⟨_, e, t, rfl⟩)
    g_MOST_SERVERS := (by obtain ⟨t, e⟩ := He.int_ok X G (all_at hf 56); exact ⟨_, e, t, rfl⟩)
    g_MOST_LETTERS := (by obtain ⟨t, e⟩ := He.int_ok X G (all_at hf 57); exact ⟨_, e, t, rfl⟩)
    g_MOST_ENTRIES := (by obtain ⟨t, e⟩ := He.int_ok X G (all_at hf 58); exact ⟨_, e, t, rfl⟩)
    g_MOST_DIGITS := (by obtain ⟨t, e⟩ := He.int_ok X G (all_at hf 59); exact ⟨_, e, t, rfl⟩)
    g_HEAD_WORDS := (by obtain ⟨t, e⟩ := He.int_ok X G (all_at hf 60); exact ⟨_, e, t, rfl⟩)
    g_BookError := ⟨_, He.glo_ok X G (all_at hf 26), rfl⟩
    g_InvalidSize := ⟨_, He.glo_ok X G (all_at hf 27), rfl⟩
    g_InvalidServers := ⟨_, He.glo_ok X G (all_at hf 28), rfl⟩
    g_InvalidEntries := ⟨_, He.glo_ok X G (all_at hf 29), rfl⟩
    g_InvalidLog := ⟨_, He.glo_ok X G (all_at hf 30), rfl⟩
    g_InvalidText := ⟨_, He.glo_ok X G (all_at hf 31), rfl⟩
    g_Log := ⟨_, He.glo_ok X G (all_at hf 32), rfl⟩
    g_LosingLog := ⟨_, He.glo_ok X G (all_at hf 33), rfl⟩
    g_stands_in_log := ⟨_, He.glo_ok X G (all_at hf 19), rfl⟩
    x_InvalidLog := ⟨(He.exc_ok (all_at hf 61)).1, (He.exc_ok (all_at hf 61)).2.1, (He.exc_ok (all_at hf 61)).2.2.1, (He.exc_ok (all_at hf 61)).2.2.2, He.glo_ok X G (all_at hf 30), He.exm_ok (all_at hf 62)⟩
    lf := lf0
    m_Log_init := met2_of lf0 (He.meth_ok (all_at hf 63)) (He.meth_ok (all_at hf 64)) (of_decide_eq_true (all_at hf 65))
    m_Log_len := met2_of lf0 (He.meth_ok (all_at hf 66)) (He.meth_ok (all_at hf 67)) (of_decide_eq_true (all_at hf 68))
    m_Log_add := met2_of lf0 (He.meth_ok (all_at hf 69)) (He.meth_ok (all_at hf 70)) (of_decide_eq_true (all_at hf 71))
    add2 := ⟨met2_of lf0 (He.meth_ok (all_at hf 69)) (He.meth_ok (all_at hf 70)) (of_decide_eq_true (all_at hf 71)), two_cases (all_at hf 72) (all_at hf 73)⟩
    m_Log_eq := met2_of lf0 (He.meth_ok (all_at hf 74)) (He.meth_ok (all_at hf 75)) (of_decide_eq_true (all_at hf 76))
    m_Log_contains := met2_of lf0 (He.meth_ok (all_at hf 77)) (He.meth_ok (all_at hf 78)) (of_decide_eq_true (all_at hf 79))
    m_Log_is_alike := met2_of lf0 (He.meth_ok (all_at hf 80)) (He.meth_ok (all_at hf 81)) (of_decide_eq_true (all_at hf 82))
    p_size := prp2_of lf0 (NbH.propB_ok (all_at hf 83)) (NbH.propB_ok (all_at hf 84)) (of_decide_eq_true (all_at hf 85))
    p_servers := prp2_of lf0 (NbH.propB_ok (all_at hf 86)) (NbH.propB_ok (all_at hf 87)) (of_decide_eq_true (all_at hf 88))
    p_entries := prp2_of lf0 (NbH.propB_ok (all_at hf 89)) (NbH.propB_ok (all_at hf 90)) (of_decide_eq_true (all_at hf 91))
    k_Log := He.mkr_ok (all_at hf 92)
    k_LosingLog := of_decide_eq_true (all_at hf 94) ▸ He.mkr_ok (all_at hf 93)
    two := two_of lf0 (met2_of lf0 (He.meth_ok (all_at hf 74)) (He.meth_ok (all_at hf 75)) (of_decide_eq_true (all_at hf 76))) (He.eqO_ok (all_at hf 95)) (He.eqO_ok (all_at hf 96)) }
theorem facts {P : Program} {w : World} {K : PySem.W.Frag} {h : Heap} {mg : Str → Option Value} {f : Addr} (X : K.In h) (G : h.Ns mainGlobals mg) (hfa : mg ("law" : PySem.Str) = some (.ref f)) (c : NbH.Told ex dfs K) :
    ∃ fd : FuncData, (∀ (s : Shared) (v : Value), BindsTo s fd ⟨[v], []⟩ [("script", v)]) ∧ ∀ base : Heap, K.In base → base.Ns mainGlobals mg → NbR.FnG P w K mg base 10 f fd ["script"] (sp_law K) := by
  have hx := c.ex
  unfold ex at hx
  obtain ⟨hl, hf⟩ := He.ba hx
  have T : Txt K mg := txt_of X G hl hf
  obtain ⟨q_law_urn, F_law_urn⟩ := c.df 28 (d := d_law_urn) rfl
  obtain ⟨q_law_lot, F_law_lot⟩ := c.df 29 (d := d_law_lot) rfl
  obtain ⟨q_law_names, F_law_names⟩ := c.df 30 (d := d_law_names) rfl
  obtain ⟨q_law_rows, F_law_rows⟩ := c.df 32 (d := d_law_rows) rfl
  obtain ⟨q_is_integer, F_is_integer⟩ := c.df 1 (d := d_is_integer) rfl
  obtain ⟨q_is_size, F_is_size⟩ := c.df 3 (d := d_is_size) rfl
  obtain ⟨q_check_size, F_check_size⟩ := c.df 8 (d := d_check_size) rfl
  obtain ⟨q_is_name, F_is_name⟩ := c.df 4 (d := d_is_name) rfl
  obtain ⟨q_are_servers, F_are_servers⟩ := c.df 5 (d := d_are_servers) rfl
  obtain ⟨q_check_servers, F_check_servers⟩ := c.df 9 (d := d_check_servers) rfl
  obtain ⟨q_is_server, F_is_server⟩ := c.df 6 (d := d_is_server) rfl
  obtain ⟨q_is_natural, F_is_natural⟩ := c.df 2 (d := d_is_natural) rfl
  obtain ⟨q_is_entry, F_is_entry⟩ := c.df 7 (d := d_is_entry) rfl
  obtain ⟨q_check_entries, F_check_entries⟩ := c.df 10 (d := d_check_entries) rfl
  obtain ⟨q_Log_init, F_Log_init⟩ := c.df 11 (d := d_Log_init) rfl
  obtain ⟨q_law_log, F_law_log⟩ := c.df 31 (d := d_law_log) rfl
  obtain ⟨q_law_text, F_law_text⟩ := c.df 33 (d := d_law_text) rfl
  obtain ⟨q_Log_size, F_Log_size⟩ := c.df 12 (d := d_Log_size) rfl
  obtain ⟨q_Log_servers, F_Log_servers⟩ := c.df 13 (d := d_Log_servers) rfl
  obtain ⟨q_Log_entries, F_Log_entries⟩ := c.df 14 (d := d_Log_entries) rfl
  obtain ⟨q_write_log, F_write_log⟩ := c.df 21 (d := d_write_log) rfl
  obtain ⟨q_is_number_text, F_is_number_text⟩ := c.df 25 (d := d_is_number_text) rfl
  obtain ⟨q_is_entry_text, F_is_entry_text⟩ := c.df 26 (d := d_is_entry_text) rfl
  obtain ⟨q_stands_in_log, F_stands_in_log⟩ := c.df 24 (d := d_stands_in_log) rfl
  obtain ⟨q_check_words, F_check_words⟩ := c.df 23 (d := d_check_words) rfl
  obtain ⟨q_read_entry, F_read_entry⟩ := c.df 27 (d := d_read_entry) rfl
  obtain ⟨q_new_log, F_new_log⟩ := c.df 20 (d := d_new_log) rfl
  obtain ⟨q_read_log, F_read_log⟩ := c.df 22 (d := d_read_log) rfl
  obtain ⟨q_Log_is_alike, F_Log_is_alike⟩ := c.df 19 (d := d_Log_is_alike) rfl
  obtain ⟨q_Log_eq, F_Log_eq⟩ := c.df 17 (d := d_Log_eq) rfl
  obtain ⟨q_law_right, F_law_right⟩ := c.df 34 (d := d_law_right) rfl
  obtain ⟨q_law, F_law⟩ := c.df 35 (d := d_law) rfl
  have e := hfa.symm.trans (He.glo_ok X G (all_at hf 25))
  cases e
  have bl := FunD.bindsA (ps := ["script"]) F_law fun _ _ _ _ _ _ us hl => match us, hl with | [_], _ => rfl
  refine ⟨_, fun s v => bl s [v] rfl, fun base _ _ => ?_⟩
  have k_law_urn : FnOk P w K mg base CX0 1 _ _ ["script"] (sp_law_urn K) := ok_law_urn F_law_urn T
  have b_law_urn : Binds K q_law_urn ["script"] [] := F_law_urn.bindsN fun _ _ _ _ _ _ us hl => match us, hl with | [_], _ => rfl
  have c_law_urn : C8.Cal P w K mg base 1 "_law_urn" (sp_law_urn K) [] := ⟨_, _, _, [], k_law_urn, He.glo_ok X G (all_at hf 0), F_law_urn.kp, b_law_urn, .nil⟩
  have k_law_lot : FnOk P w K mg base CX0 1 _ _ ["urn", "many"] (sp_law_lot K) := ok_law_lot F_law_lot T
  have b_law_lot : Binds K q_law_lot ["urn", "many"] [] := F_law_lot.bindsN fun _ _ _ _ _ _ us hl => match us, hl with | [_, _], _ => rfl
  have c_law_lot : C8.Cal P w K mg base 1 "_law_lot" (sp_law_lot K) [] := ⟨_, _, _, [], k_law_lot, He.glo_ok X G (all_at hf 1), F_law_lot.kp, b_law_lot, .nil⟩
  have k_law_names : FnOk P w K mg base CX0 2 _ _ ["urn", "most"] (sp_law_names K) := ok_law_names F_law_names T c_law_lot
  have b_law_names : Binds K q_law_names ["urn", "most"] [] := F_law_names.bindsN fun _ _ _ _ _ _ us hl => match us, hl with | [_, _], _ => rfl
  have c_law_names : C8.Cal P w K mg base 2 "_law_names" (sp_law_names K) [] := ⟨_, _, _, [], k_law_names, He.glo_ok X G (all_at hf 2), F_law_names.kp, b_law_names, .nil⟩
  have k_law_rows : FnOk P w K mg base CX0 2 _ _ ["urn", "names", "many"] (sp_law_rows K) := ok_law_rows F_law_rows T c_law_lot
  have b_law_rows : Binds K q_law_rows ["urn", "names", "many"] [] := F_law_rows.bindsN fun _ _ _ _ _ _ us hl => match us, hl with | [_, _, _], _ => rfl
  have c_law_rows : C8.Cal P w K mg base 2 "_law_rows" (sp_law_rows K) [] := ⟨_, _, _, [], k_law_rows, He.glo_ok X G (all_at hf 3), F_law_rows.kp, b_law_rows, .nil⟩
  have k_is_integer : FnOk P w K mg base CX0 1 _ _ ["thing"] (sp_is_integer K) := ok_is_integer F_is_integer T
  have b_is_integer : Binds K q_is_integer ["thing"] [] := F_is_integer.bindsN fun _ _ _ _ _ _ us hl => match us, hl with | [_], _ => rfl
  have c_is_integer : C8.Cal P w K mg base 1 "is_integer" (sp_is_integer K) [] := ⟨_, _, _, [], k_is_integer, He.glo_ok X G (all_at hf 4), F_is_integer.kp, b_is_integer, .nil⟩
  have k_is_size : FnOk P w K mg base CX0 2 _ _ ["thing"] (sp_is_size K) := ok_is_size F_is_size T c_is_integer
  have b_is_size : Binds K q_is_size ["thing"] [] := F_is_size.bindsN fun _ _ _ _ _ _ us hl => match us, hl with | [_], _ => rfl
  have c_is_size : C8.Cal P w K mg base 2 "is_size" (sp_is_size K) [] := ⟨_, _, _, [], k_is_size, He.glo_ok X G (all_at hf 5), F_is_size.kp, b_is_size, .nil⟩
  have k_check_size : FnOk P w K mg base CX0 3 _ _ ["size"] (sp_check_size K) := ok_check_size F_check_size T c_is_size
  have b_check_size : Binds K q_check_size ["size"] [] := F_check_size.bindsN fun _ _ _ _ _ _ us hl => match us, hl with | [_], _ => rfl
  have c_check_size : C8.Cal P w K mg base 3 "check_size" (sp_check_size K) [] := ⟨_, _, _, [], k_check_size, He.glo_ok X G (all_at hf 6), F_check_size.kp, b_check_size, .nil⟩
  have k_is_name : FnOk P w K mg base CX0 1 _ _ ["thing"] (sp_is_name K) := ok_is_name F_is_name T
  have b_is_name : Binds K q_is_name ["thing"] [] := F_is_name.bindsN fun _ _ _ _ _ _ us hl => match us, hl with | [_], _ => rfl
  have c_is_name : C8.Cal P w K mg base 1 "is_name" (sp_is_name K) [] := ⟨_, _, _, [], k_is_name, He.glo_ok X G (all_at hf 7), F_is_name.kp, b_is_name, .nil⟩
  have k_are_servers : FnOk P w K mg base CX0 2 _ _ ["thing"] (sp_are_servers K) := ok_are_servers F_are_servers T c_is_name
  have b_are_servers : Binds K q_are_servers ["thing"] [] := F_are_servers.bindsN fun _ _ _ _ _ _ us hl => match us, hl with | [_], _ => rfl
  have c_are_servers : C8.Cal P w K mg base 2 "are_servers" (sp_are_servers K) [] := ⟨_, _, _, [], k_are_servers, He.glo_ok X G (all_at hf 8), F_are_servers.kp, b_are_servers, .nil⟩
  have k_check_servers : FnOk P w K mg base CX0 3 _ _ ["servers"] (sp_check_servers K) := ok_check_servers F_check_servers T c_are_servers
  have b_check_servers : Binds K q_check_servers ["servers"] [] := F_check_servers.bindsN fun _ _ _ _ _ _ us hl => match us, hl with | [_], _ => rfl
  have c_check_servers : C8.Cal P w K mg base 3 "check_servers" (sp_check_servers K) [] := ⟨_, _, _, [], k_check_servers, He.glo_ok X G (all_at hf 9), F_check_servers.kp, b_check_servers, .nil⟩
  have k_is_server : FnOk P w K mg base CX0 1 _ _ ["servers", "thing"] (sp_is_server K) := ok_is_server F_is_server T
  have b_is_server : Binds K q_is_server ["servers", "thing"] [] := F_is_server.bindsN fun _ _ _ _ _ _ us hl => match us, hl with | [_, _], _ => rfl
  have c_is_server : C8.Cal P w K mg base 1 "is_server" (sp_is_server K) [] := ⟨_, _, _, [], k_is_server, He.glo_ok X G (all_at hf 10), F_is_server.kp, b_is_server, .nil⟩
  have k_is_natural : FnOk P w K mg base CX0 2 _ _ ["thing"] (sp_is_natural K) := ok_is_natural F_is_natural T c_is_integer
  have b_is_natural : Binds K q_is_natural ["thing"] [] := F_is_natural.bindsN fun _ _ _ _ _ _ us hl => match us, hl with | [_], _ => rfl
  have c_is_natural : C8.Cal P w K mg base 2 "is_natural" (sp_is_natural K) [] := ⟨_, _, _, [], k_is_natural, He.glo_ok X G (all_at hf 11), F_is_natural.kp, b_is_natural, .nil⟩
  have k_is_entry : FnOk P w K mg base CX0 3 _ _ ["servers", "thing"] (sp_is_entry K) := ok_is_entry F_is_entry T c_is_server c_is_natural
  have b_is_entry : Binds K q_is_entry ["servers", "thing"] [] := F_is_entry.bindsN fun _ _ _ _ _ _ us hl => match us, hl with | [_, _], _ => rfl
  have c_is_entry : C8.Cal P w K mg base 3 "is_entry" (sp_is_entry K) [] := ⟨_, _, _, [], k_is_entry, He.glo_ok X G (all_at hf 12), F_is_entry.kp, b_is_entry, .nil⟩
  have k_check_entries : FnOk P w K mg base CX0 4 _ _ ["servers", "entries"] (sp_check_entries K) := ok_check_entries F_check_entries T c_is_entry
  have b_check_entries : Binds K q_check_entries ["servers", "entries"] [] := F_check_entries.bindsN fun _ _ _ _ _ _ us hl => match us, hl with | [_, _], _ => rfl
  have c_check_entries : C8.Cal P w K mg base 4 "check_entries" (sp_check_entries K) [] := ⟨_, _, _, [], k_check_entries, He.glo_ok X G (all_at hf 13), F_check_entries.kp, b_check_entries, .nil⟩
  have k_Log_init : FnOk P w K mg base CX0 5 _ _ ["self", "size", "servers", "entries"] (sp_Log_init K) := ok_Log_init F_Log_init T c_check_size c_check_servers c_check_entries
  have b_Log_init : Binds K q_Log_init ["self", "size", "servers", "entries"] [] := F_Log_init.bindsN fun _ _ _ _ _ _ us hl => match us, hl with | [_, _, _, _], _ => rfl
  have c_mk_Log : C8.Mak P w K mg base 5 "Log" (He.ga K "Log") (sp_Log_init K) [] := ⟨_, _, _, [], T.k_Log, k_Log_init, He.glo_ok X G (all_at hf 32), b_Log_init, .nil⟩
  have c_mk_LosingLog : C8.Mak P w K mg base 5 "LosingLog" (He.ga K "LosingLog") (sp_Log_init K) [] := ⟨_, _, _, [], T.k_LosingLog, k_Log_init, He.glo_ok X G (all_at hf 33), b_Log_init, .nil⟩
  have k_law_log : FnOk P w K mg base CX0 7 _ _ ["wide", "names", "rows", "is_losing"] (sp_law_log K) := ok_law_log F_law_log T c_mk_LosingLog c_mk_Log
  have b_law_log : Binds K q_law_log ["wide", "names", "rows", "is_losing"] [] := F_law_log.bindsN fun _ _ _ _ _ _ us hl => match us, hl with | [_, _, _, _], _ => rfl
  have c_law_log : C8.Cal P w K mg base 7 "_law_log" (sp_law_log K) [] := ⟨_, _, _, [], k_law_log, He.glo_ok X G (all_at hf 14), F_law_log.kp, b_law_log, .nil⟩
  have k_law_text : FnOk P w K mg base CX0 1 _ _ ["wide", "names", "rows", "is_losing"] (sp_law_text K) := ok_law_text F_law_text T
  have b_law_text : Binds K q_law_text ["wide", "names", "rows", "is_losing"] [] := F_law_text.bindsN fun _ _ _ _ _ _ us hl => match us, hl with | [_, _, _, _], _ => rfl
  have c_law_text : C8.Cal P w K mg base 1 "_law_text" (sp_law_text K) [] := ⟨_, _, _, [], k_law_text, He.glo_ok X G (all_at hf 15), F_law_text.kp, b_law_text, .nil⟩
  have k_Log_size : FnOk P w K mg base CX0 1 _ _ ["self"] (sp_Log_size K) := ok_Log_size F_Log_size T
  have b_Log_size : Binds K q_Log_size ["self"] [] := F_Log_size.bindsN fun _ _ _ _ _ _ us hl => match us, hl with | [_], _ => rfl
  have c_Log_size : C8.CalAt P w K mg base 1 (d_Log_size.way K) (sp_Log_size K) := ⟨_, _, k_Log_size, F_Log_size.kp, b_Log_size⟩
  have k_Log_servers : FnOk P w K mg base CX0 1 _ _ ["self"] (sp_Log_servers K) := ok_Log_servers F_Log_servers T
  have b_Log_servers : Binds K q_Log_servers ["self"] [] := F_Log_servers.bindsN fun _ _ _ _ _ _ us hl => match us, hl with | [_], _ => rfl
  have c_Log_servers : C8.CalAt P w K mg base 1 (d_Log_servers.way K) (sp_Log_servers K) := ⟨_, _, k_Log_servers, F_Log_servers.kp, b_Log_servers⟩
  have k_Log_entries : FnOk P w K mg base CX0 1 _ _ ["self"] (sp_Log_entries K) := ok_Log_entries F_Log_entries T
  have b_Log_entries : Binds K q_Log_entries ["self"] [] := F_Log_entries.bindsN fun _ _ _ _ _ _ us hl => match us, hl with | [_], _ => rfl
  have c_Log_entries : C8.CalAt P w K mg base 1 (d_Log_entries.way K) (sp_Log_entries K) := ⟨_, _, k_Log_entries, F_Log_entries.kp, b_Log_entries⟩
  have k_write_log : FnOk P w K mg base CX0 3 _ _ ["log"] (sp_write_log K) := ok_write_log F_write_log T c_Log_size c_Log_servers c_Log_entries
  have b_write_log : Binds K q_write_log ["log"] [] := F_write_log.bindsN fun _ _ _ _ _ _ us hl => match us, hl with | [_], _ => rfl
  have c_write_log : C8.Cal P w K mg base 3 "write_log" (sp_write_log K) [] := ⟨_, _, _, [], k_write_log, He.glo_ok X G (all_at hf 16), F_write_log.kp, b_write_log, .nil⟩
  have cf_write_log : NbZ.CalF P w K mg base 3 "write_log" ["log"] gV_write_log (sp_write_log K) := ⟨_, _, _, _, He.glo_ok X G (all_at hf 16), k_write_log, F_write_log.kp, NbZ.kf1 F_write_log (fun b => [b]) (fun rb => (.cons rb .nil)) rfl (fun _ _ _ _ _ _ _ => rfl)⟩
  have k_is_number_text : FnOk P w K mg base CX0 1 _ _ ["word"] (sp_is_number_text K) := ok_is_number_text F_is_number_text T
  have b_is_number_text : Binds K q_is_number_text ["word"] [] := F_is_number_text.bindsN fun _ _ _ _ _ _ us hl => match us, hl with | [_], _ => rfl
  have c_is_number_text : C8.Cal P w K mg base 1 "is_number_text" (sp_is_number_text K) [] := ⟨_, _, _, [], k_is_number_text, He.glo_ok X G (all_at hf 17), F_is_number_text.kp, b_is_number_text, .nil⟩
  have k_is_entry_text : FnOk P w K mg base CX0 2 _ _ ["servers", "word"] (sp_is_entry_text K) := ok_is_entry_text F_is_entry_text T c_is_number_text
  have b_is_entry_text : Binds K q_is_entry_text ["servers", "word"] [] := F_is_entry_text.bindsN fun _ _ _ _ _ _ us hl => match us, hl with | [_, _], _ => rfl
  have c_is_entry_text : C8.Cal P w K mg base 2 "is_entry_text" (sp_is_entry_text K) [] := ⟨_, _, _, [], k_is_entry_text, He.glo_ok X G (all_at hf 18), F_is_entry_text.kp, b_is_entry_text, .nil⟩
  have k_stands_in_log : FnOk P w K mg base CX0 3 _ _ ["words", "place"] (sp_stands_in_log K) := ok_stands_in_log F_stands_in_log T c_is_number_text c_is_size c_are_servers c_is_entry_text
  have b_stands_in_log : Binds K q_stands_in_log ["words", "place"] [] := F_stands_in_log.bindsN fun _ _ _ _ _ _ us hl => match us, hl with | [_, _], _ => rfl
  have cv_stands_in_log : C8.CalAt P w K mg base 3 (d_stands_in_log.way K) (sp_stands_in_log K) := ⟨_, _, k_stands_in_log, F_stands_in_log.kp, b_stands_in_log⟩
  have c_stands_in_log : C8.Cal P w K mg base 3 "stands_in_log" (sp_stands_in_log K) [] := ⟨_, _, _, [], k_stands_in_log, He.glo_ok X G (all_at hf 19), F_stands_in_log.kp, b_stands_in_log, .nil⟩
  have k_check_words : FnOk P w K mg base CX0 4 _ _ ["words", "can_stand"] (sp_check_words K) := ok_check_words F_check_words T cv_stands_in_log
  have b_check_words : Binds K q_check_words ["words", "can_stand"] [] := F_check_words.bindsN fun _ _ _ _ _ _ us hl => match us, hl with | [_, _], _ => rfl
  have c_check_words : C8.Cal P w K mg base 4 "check_words" (sp_check_words K) [] := ⟨_, _, _, [], k_check_words, He.glo_ok X G (all_at hf 20), F_check_words.kp, b_check_words, .nil⟩
  have k_read_entry : FnOk P w K mg base CX0 1 _ _ ["word"] (sp_read_entry K) := ok_read_entry F_read_entry T
  have b_read_entry : Binds K q_read_entry ["word"] [] := F_read_entry.bindsN fun _ _ _ _ _ _ us hl => match us, hl with | [_], _ => rfl
  have c_read_entry : C8.Cal P w K mg base 1 "read_entry" (sp_read_entry K) [] := ⟨_, _, _, [], k_read_entry, He.glo_ok X G (all_at hf 21), F_read_entry.kp, b_read_entry, .nil⟩
  have k_new_log : FnOk P w K mg base CX0 7 _ _ ["kind", "size", "servers", "entries"] (sp_new_log K) := ok_new_log F_new_log T c_mk_LosingLog c_mk_Log
  have b_new_log : Binds K q_new_log ["kind", "size", "servers", "entries"] [] := F_new_log.bindsN fun _ _ _ _ _ _ us hl => match us, hl with | [_, _, _, _], _ => rfl
  have c_new_log : C8.Cal P w K mg base 7 "new_log" (sp_new_log K) [] := ⟨_, _, _, [], k_new_log, He.glo_ok X G (all_at hf 22), F_new_log.kp, b_new_log, .nil⟩
  have k_read_log : FnOk P w K mg base CX0 8 _ _ ["text"] (sp_read_log K) := ok_read_log F_read_log T c_check_words c_read_entry c_new_log
  have b_read_log : Binds K q_read_log ["text"] [] := F_read_log.bindsN fun _ _ _ _ _ _ us hl => match us, hl with | [_], _ => rfl
  have c_read_log : C8.Cal P w K mg base 8 "read_log" (sp_read_log K) [] := ⟨_, _, _, [], k_read_log, He.glo_ok X G (all_at hf 23), F_read_log.kp, b_read_log, .nil⟩
  have cf_read_log : NbZ.CalF P w K mg base 8 "read_log" ["text"] gV_read_log (sp_read_log K) := ⟨_, _, _, _, He.glo_ok X G (all_at hf 23), k_read_log, F_read_log.kp, NbZ.kf1 F_read_log (fun b => [b]) (fun rb => (.cons rb .nil)) rfl (fun _ _ _ _ _ _ _ => rfl)⟩
  have k_Log_is_alike : FnOk P w K mg base CX0 1 _ _ ["self", "other"] (sp_Log_is_alike K) := ok_Log_is_alike F_Log_is_alike T
  have b_Log_is_alike : Binds K q_Log_is_alike ["self", "other"] [] := F_Log_is_alike.bindsN fun _ _ _ _ _ _ us hl => match us, hl with | [_, _], _ => rfl
  have c_Log_is_alike : C8.CalAt P w K mg base 1 (d_Log_is_alike.way K) (sp_Log_is_alike K) := ⟨_, _, k_Log_is_alike, F_Log_is_alike.kp, b_Log_is_alike⟩
  have k_Log_eq : FnOk P w K mg base CX0 3 _ _ ["self", "other"] (sp_Log_eq K) := ok_Log_eq F_Log_eq T c_Log_is_alike
  have b_Log_eq : Binds K q_Log_eq ["self", "other"] [] := F_Log_eq.bindsN fun _ _ _ _ _ _ us hl => match us, hl with | [_, _], _ => rfl
  have c_Log_eq : C8.CalAt P w K mg base 3 (d_Log_eq.way K) (sp_Log_eq K) := ⟨_, _, k_Log_eq, F_Log_eq.kp, b_Log_eq⟩
  have k_law_right : NbR.FnG P w K mg base 9 _ _ ["wide", "names", "rows", "is_losing"] (sp_law_right K) := ok_law_right F_law_right T c_law_log c_law_text c_write_log cf_write_log c_read_log cf_read_log c_Log_size c_Log_servers c_Log_entries c_Log_eq
  have b_law_right : Binds K q_law_right ["wide", "names", "rows", "is_losing"] [] := F_law_right.bindsN fun _ _ _ _ _ _ us hl => match us, hl with | [_, _, _, _], _ => rfl
  have c_law_right : NbR.CalG P w K mg base 9 "_law_right" (sp_law_right K) := ⟨_, _, _, k_law_right, He.glo_ok X G (all_at hf 24), F_law_right.kp, b_law_right⟩
  exact ok_law F_law T c_law_urn c_law_lot c_law_names c_law_rows c_law_right c_mk_Log c_write_log c_Log_entries c_read_log
end LawP
open PySem PySem.W PySem.Calls PyProof.Rows
theorem PySem.Challenge.cw_numberbooks_k81_logs_written_and_read_holds : PySem.Challenge.rw_numberbooks_k81_logs_written_and_read.Holds := by
  w_on; o_law
  refine HandSHeadRun.head_any (r := OpenLaw.row PySem.Challenge.rw_numberbooks_k81_logs_written_and_read) (q := view (OpenLaw.row PySem.Challenge.rw_numberbooks_k81_logs_written_and_read).prog [45]) (H := LawP.hk) (ob := LawP.ob) (M := 12000) (loose := LawP.loose) (d := HandSHeadRun.topDef (OpenLaw.row PySem.Challenge.rw_numberbooks_k81_logs_written_and_read).prog 45) (kwd := []) LawP.ob_eq
    (by kernel_rfl) (fun s => by kernel_rfl) LawP.top_runs (by kernel_rfl) (by kernel_rfl) (by kernel_rfl) (by rfl) (by first | assumption | decide +kernel) (by decide +kernel) ⟨rfl, rfl, rfl, rfl, rfl, by decide +kernel⟩ ?hw ?hc
  case hw => w_witness2
  case hc =>
    refine NbR.lawG (l := PySem.Challenge.rw_numberbooks_k81_logs_written_and_read) (n := 63) (k := 10) (x := "script") rfl (by decide) (by kernel_rfl) ⟨rfl, by decide, by decide⟩ ?F
    intro w mg fa h Y G hmg0
    obtain ⟨K, KX, c⟩ := Y
    have hmg : mg ("law" : PySem.Str) = some (.ref fa) := by
      have e : (HandSHeadRun.topDef (OpenLaw.row PySem.Challenge.rw_numberbooks_k81_logs_written_and_read).prog 45).name = ("law" : PySem.Str) := by kernel_rfl
      rw [← e]
      exact hmg0
    obtain ⟨fd, hb, hF⟩ := LawP.facts (P := (PySem.Challenge.rw_numberbooks_k81_logs_written_and_read).prog) (w := w) KX G hmg c
    exact ⟨K, fd, LawP.sp_law K, KX, hb, fun H a ns hl hS => ⟨a, ns, rfl, hS, hl, fun _ => rfl⟩, hF⟩
