import PyProof.Rows.All
import Wide.All
import OpenK.AllK
import Wide.FinOn
import PyProof.ReprRoads
import HandS.Base
import HandS.Call
import HandS.List
import HandS.Comp
import HandS.Ends
import HandS.Words
import HandS.ForMost
import HandS.Wide
import HandS.IsInst
import HandS.TupAny
import HandS.Zip
import HandS.Dict
import HandS.Codes
import HandS.Text
import HandS.Style
import HandS.TryOnly
import HandS.FStr
import HandS.StrMore
import HandS.Deep
import KE.DatumMoreOrd
import HandS.TupLe
import HandS.SlotsOwn
import HandS.More
import HandS.TupMul
import HandS.RaiseMore
import KE.GoesMore
import KE.GoesEnum
import HandS.ForExc
import HandS.ExcField
import HandS.ExcInit
import KE.KExcIs
import HandS.ExcIs
import HandS.HeadHook3
import PyProof.InstNe
import PyProof.FitsInt
import PyProof.FitsReplace
import PyProof.StrLawsJoin
import PyProof.ReprBulk
import PySem.Challenge.RW_widerkeys_k75_what_is_no_plan_or_run
set_option Elab.async false
set_option linter.all false
set_option maxRecDepth 100000
set_option maxHeartbeats 8000000
/-! General rules: powers of great numbers, the text of data (repr), defs whose callers run no repr. -/
namespace Zg
open PySem PySem.Spec PyProof.Rows L2

/-! ### powers -/
def CPowZ (i j : Int) : Prop := 0 ≤ j ∧ (Builtin.Int.intBits i : Int) * j ≤ 2 ^ 27
theorem op_powZ {X : Cx} : OpR X (binaryOp .Pow) (rI CPowZ fun i j => .int (i ^ j.toNat)) :=
  opI fun _ _ _ _ _ _ _ hc q => pow_int hc.1 hc.2 q

/-! ### no repr runs around -/
/-- no repr runs around -/
def Calm (A : Around) : Prop := A.guards = some []
theorem Calm.deeper {A : Around} {env : Env} (h : Calm A) : Calm (A.deeper env) := h

/-- repr(x), x data at any depth -/
def rReprD (K : PySem.W.Frag) : List V → Hp → VK → Prop := fun xs H Q =>
  ∃ (x : V) (d : PyData), xs = [x] ∧ Dp K H x d ∧ d.showable = true ∧ d.hasDict = false ∧
    d.depth ≤ 64 ∧ d.shown.length ≤ sizeLine ∧ (∀ i, x = .int i → i.natAbs.log2 < 1920) ∧ Q (.str d.shown) H
theorem call_reprD {X : Cx} (hg : Calm X.A) (hu : X.A.units + 70 < cLine) : CallR X (.builtin "repr") (rReprD X.K) := by
  intro pins s σ H xs us Q I r h
  obtain ⟨x, d, rfl, hd, hs, hn, hdep, hsz, hi, q⟩ := h
  obtain ⟨u, rfl, rx⟩ := vals1 r
  obtain ⟨as, rd⟩ := Dp.reads I d x u hd rx
  have nod : d.hasDict = true → sysModules ∉ as := fun z => by rw [hn] at z; cases z
  cases hd with
  | non =>
    cases rx
    exact PySem.P.repr_of_none ⟨.str _, H, I.tok _, ⟨_, rfl⟩, q⟩
  | bl b =>
    cases rx
    refine PySem.P.repr_of_bool ⟨.str _, H, I.tok _, ⟨_, rfl⟩, ?_⟩
    cases b <;> exact q
  | int i =>
    obtain ⟨t, rfl⟩ := rx
    exact PySem.P.repr_of_int (hi i rfl) ⟨.str _, H, I.tok _, ⟨_, rfl⟩, q⟩
  | str z =>
    obtain ⟨t, rfl⟩ := rx
    exact PySem.P.repr_of_str ⟨.str _, H, I.tok _, ⟨_, rfl⟩, q⟩ hsz
  | lst h1 h2 =>
    cases rx
    refine repr_of_reads' rd hs nod hg (by omega) (fun _ _ e => e) (fun h' u tk hk => ?_) hsz
    exact ⟨.str _, H, I.kept (t' := tk) hk, ⟨_, rfl⟩, q⟩
  | tup h1 h2 =>
    cases rx
    refine repr_of_reads' rd hs nod hg (by omega) (fun _ _ e => e) (fun h' u tk hk => ?_) hsz
    exact ⟨.str _, H, I.kept (t' := tk) hk, ⟨_, rfl⟩, q⟩

/-! ### defs that are called where no repr runs -/
section
variable {P : Program} {w : World} {K : PySem.W.Frag} {mg : Str → Option Value} {base : Heap} {CX : CXT} {k : Nat} {f : Addr} {fd : FuncData} {ps : List Str} {sp : Sp}
/-- a def keeps its promise wherever it is called with no repr around -/
structure FnG (P : Program) (w : World) (K : PySem.W.Frag) (mg : Str → Option Value) (base : Heap) (CX : CXT)
    (k : Nat) (f : Addr) (fd : FuncData) (ps : List Str) (sp : Sp) : Prop where
  many : ∀ vs H Q E, sp vs H Q E → vs.length = ps.length
  goes : ∀ (A : Around), Calm A → ∀ (fr : List Env) (s : Shared) (H : Hp) (args : Args) (us : List Value) (vs : List V) (Q : VK) (E : XK),
    Room k A → Env0 P w K mg base A fr s H → BindsTo s fd args (ps.zip us) → Vals vs us → sp vs H Q E →
      codeAny (model P w) A (.call (.ref f) args) (CR CX fr P w H s Q E) s
theorem FnG.of (F : FnOk P w K mg base CX k f fd ps sp) : FnG P w K mg base CX k f fd ps sp :=
  ⟨F.len, fun A _ fr s H args us vs Q E r e b v h => F.run A fr s H args us vs Q E r e b v h⟩
theorem FnG.up {j : Nat} (F : FnG P w K mg base CX j f fd ps sp) (h : j ≤ k) : FnG P w K mg base CX k f fd ps sp :=
  ⟨F.many, fun A c fr s H args us vs Q E r => F.goes A c fr s H args us vs Q E (r.mono h)⟩

/-- a def of the text, by its body, with no repr around -/
theorem Fun_okG {x qual : Str} {st : Stmt} {N : List Str} (F : Fun K x qual st f fd) (S : FnScope N ps (defScope st)) (len : ∀ vs H Q E, sp vs H Q E → vs.length = ps.length)
    (hbody : ∀ (cd : Value) (A : Around) (fr : List Env) (s : Shared) (H : Hp) (vs : List V) (Q : VK) (E : XK), Calm A →
      Room k (A.deeper (envOfC qual (defScope st) s.heap.objs.size f cd)) → sp vs H Q E →
        ∃ t, PSs (cxOf CX P w K mg base N qual (defScope st) f cd A fr s H E).nox (defBody st) t ∧ t { nx := fun _ H' => Q .non H', rt := Q } (start N vs) H) :
    FnG P w K mg base CX (k + 1) f fd ps sp := by
  obtain ⟨oc, od, kw, doc, pm, an, cd, ct, osl, rfl, at_f, hcd⟩ := F.ex
  constructor
  · exact len
  intro A calm fr s H args us vs Q E room e0 binds rel hsp
  have hlen := len _ _ _ _ hsp
  have stays : ∀ b o, base.get? b = some o → s.heap.get? b = some o := fun b o e => (e0.bs b o e).1
  refine codeAny_call_function room.depth (e0.mod.kin.keeps stays _ _ at_f) rfl S.co S.gen rfl (PySem.W.codeRec_of (e0.mod.kin.keeps stays) hcd) (binds _ _ _ _ ?_)
  refine wpAny_newFunctionEnv_cells S.kind (fun ⟨n, v⟩ hy => ?_) fun env he s1 inC => ?_
  · cases S.par n (List.of_mem_zip hy).1 with
    | inl z => exact .inl z
    | inr z => exact .inr ⟨z, PySem.W.cellsFrom_some _ _ _ (.inl z)⟩
  subst he
  refine ⟨(e0.mod.nolimit.keeps stays).keeps inC.toInCall.keep, codeAny_func ?_⟩
  obtain ⟨t, ht, hq⟩ := hbody cd A fr s H vs Q E calm (room.deeper _) hsp
  refine wpAny_mono (ht.nox.run [] s1 (start N vs) H _ (inv_start (CX := CX) S room.hd e0 hlen rel inC) hq) (fun fl s' z => ?_) fun _ _ z => z
  match fl, z with
  | .ret _, ⟨v, _, H', J, rv, q⟩ => exact ⟨v, H', J.os, J.bare, J.base, J.hok, rv, q⟩
  | .next, ⟨_, H', J, q⟩ => exact ⟨.non, H', J.os, J.bare, J.base, J.hok, rfl, q⟩
  | .brk, ⟨_, _, _, q⟩ => exact q.elim
  | .cont, ⟨_, _, _, q⟩ => exact q.elim
end

section
variable {X : Cx} {CX : CXT} {k : Nat} {f : Addr} {fd : FuncData} {ps : List Str} {sp : Sp} {E : XK} {x : Str} {p pos : Pos} {e : Expr} {es : List Expr} {t : TA}
/-- f(e, ..) where no repr runs -/
theorem pe_callG (c : Calm X.A) (F : FnG X.prog X.w X.K X.mg X.base CX k f fd ps sp) (hr : Room k X.A) (hg : Gl X x) (hm : X.mg x = some (.ref f)) (hk : PySem.W.keepIn X.K (.ref f) = true)
    (hb : Binds X.K fd ps []) (hx : Passes CX X E) (ha : PA X (e :: es) t) (hdb : (x == ("__debug__" : Str)) = false := by decide)
    (he : starEach (e :: es) X.env = (false, eval e X.env) :: starEach es X.env := by rfl) (hpl : (backTo pos (starEach es X.env)).any (·.1) = false := by rfl) :
    PE X (.Call (.Name x p) (e :: es) [] pos) (tCall sp [] E t) := by
  constructor
  intro pins s σ H Q I h
  refine wpAny_Call_Name_kw (ld_glob I hg hm (PySem.W.callWith_K (h₀ := X.base) I.ok.mod.kin hk (thn (ha.run pos pins s σ H _ I h) fun us s1 z => ?_) he hpl) hdb)
  obtain ⟨vs, H1, J, rel, q⟩ := z
  have q' : sp vs H1 Q E := by rw [← List.append_nil vs]; exact q
  have hl : (us ++ []).length = ps.length := by rw [List.append_nil, ← rel.length]; exact F.many _ _ _ _ q'
  have b := hb s1 us J.kIn hl
  rw [List.append_nil] at b
  refine ⟨J.kIn, wpAny_call (codeAny_mono (F.goes X.A c X.stack s1 H1 ⟨us, []⟩ us vs Q E hr J.env0 b rel q') fun r s2 z => ?_)⟩
  match r, z with
  | .error _, z => exact hx pins σ H1 s1 _ s2 J z
  | .ok (.ret _), z => exact J.after z
  | .ok .next, z => exact z.elim
  | .ok .brk, z => exact z.elim
  | .ok .cont, z => exact z.elim
end

/-! ### the law's own call -/
/-- the script alone is tracked, or nothing -/
def track (a : Addr) (o : HO) : Hp := fun b => if b = a then some o else none
theorem track_at {a : Addr} {o : HO} : track a o a = some o := if_pos rfl
theorem track_off {a b : Addr} {o : HO} (h : b ≠ a) : track a o b = none := if_neg h

theorem lawG {P : Program} {w : World} {K : PySem.W.Frag} {mg mb : Str → Option Value} {k : Nat} {fa a : Addr} {fd : FuncData} {x : Str} {sp : Sp} {s : Shared} {us : List Value} {ns : List Int}
    (kin : K.In s.heap) (gl : s.heap.Ns mainGlobals mg) (bl : s.heap.Ns builtinsNs mb) (bb : ∀ x : Str, x ≠ "__name__" → mb x = bootBuiltins x) (lim : s.heap.NoLimit) (gens : s.gens = #[])
    (ha : s.heap.get? a = some { cls := .type "list", data := .seq us.toArray }) (whole : IntsAre us ns) (line : ns.length ≤ sizeLine) (room : Room k callerA)
    (F : ∀ base : Heap, K.In base → base.Ns mainGlobals mg → FnG P w K mg base CX0 k fa fd [x] sp)
    (bind : ∀ (s : Shared) (u : Value), BindsTo s fd ⟨[u], []⟩ [(x, u)])
    (hsp : ∀ H : Hp, SqL K H a (ns.map V.int) → sp [.ref a] H (fun v _ => v = .bl true) fun _ _ _ => False) :
    codeAny (model P w) callerA (.call (.ref fa) ⟨[.ref a], []⟩) (fun r s' => r = .ok (.ret (.bool true)) ∧ OldK s.heap s'.heap ∧ s'.os = s.os ∧ AllBare s'.gens) s := by
  have rel := vals_ints whole
  have size := whole.length
  -- H: the script, or nothing; what H does not track is in the base
  have go : ∀ H : Hp, SqL K H a (ns.map V.int) → HOk P w H s.heap → (∀ b u, H b = some u → b = a ∧ K.lookup a = none ∧ ∃ o xs, u = .frz o (.lst xs)) →
      codeAny (model P w) callerA (.call (.ref fa) ⟨[.ref a], []⟩) (fun r s' => r = .ok (.ret (.bool true)) ∧ OldK s.heap s'.heap ∧ s'.os = s.os ∧ AllBare s'.gens) s := by
    intro H hS hok only
    have free : ∀ {b : Addr}, b ≠ a → H b = none := fun {b} hb => by
      cases q : H b with
      | none => rfl
      | some u => exact absurd (only b u q).1 hb
    have notDict : ∀ {b : Addr} {o : Obj} {es : Array DictEntry} {n : Nat}, s.heap.get? b = some o → o.data = .dict es n → b ≠ a := fun {b o es n} e d z => by
      subst z
      rw [ha] at e
      have e' := Option.some.inj e
      subst e'
      cases d
    have keepNs : ∀ {b : Addr} {m : Str → Option Value}, s.heap.Ns b m → (hidT s.heap H).Ns b m := fun {b m} z => by
      obtain ⟨o, es, n, e, d, r⟩ := z
      exact ⟨o, es, n, hidT_get e (free (notDict e d)), d, r⟩
    have kinB : K.In (hidT s.heap H) := fun b o e => hidT_get (kin b o e) (by
      cases q : H b with
      | none => rfl
      | some u =>
        obtain ⟨z, no, _⟩ := only b u q
        rw [z, no] at e
        cases e)
    have limB : (hidT s.heap H).NoLimit := by
      obtain ⟨m, h1, h2⟩ := lim
      exact ⟨m, keepNs h1, h2⟩
    have e0 : Env0 P w K mg (hidT s.heap H) callerA [] s H :=
      { frames := rfl, mod := ⟨kinB, keepNs gl, ⟨mb, keepNs bl, bb⟩, limB⟩, bs := fun b o e => of_hidT e, bsz := Nat.le_of_eq (hidT_size _ _), funs := trivial,
        frf := fun b hb => (List.not_mem_nil (show b ∈ ([] : List Addr) from hb)).elim, hok := hok, bare := .of_eq gens }
    refine codeAny_mono ((F _ kinB (keepNs gl)).goes callerA rfl [] s H ⟨[.ref a], []⟩ [.ref a] [.ref a] _ _ room e0 (bind s (.ref a)) (.cons rfl .nil) (hsp H hS)) fun r s' z => ?_
    match r, z with
    | .error _, z => exact False.elim z
    | .ok .next, z => exact False.elim z
    | .ok .brk, z => exact False.elim z
    | .ok .cont, z => exact False.elim z
    | .ok (.ret u), z =>
      obtain ⟨v, H', os, bare, un, hok', rv, q⟩ := z
      have q' : v = .bl true := q
      subst q'
      obtain rfl : u = Value.bool true := rv
      refine ⟨rfl, OldK.of_keep fun b o e => ?_, os, bare⟩
      cases q : H b with
      | none => exact un.keep b o e q (List.not_mem_nil) (List.not_mem_nil)
      | some u =>
        obtain ⟨_, _, ob, xs, eu⟩ := only b u q
        subst eu
        have h1 := (hok b _ q).1
        have h2 := (hok' b _ (un.frzs b ob _ q)).1
        rw [e] at h1
        rw [h2, ← Option.some.inj h1]
  cases hk : K.lookup a with
  | none =>
    refine go (track a (.frz { cls := .type "list", data := .seq us.toArray } (.lst (ns.map V.int)))) (.inl (.inr ⟨_, track_at⟩)) (fun b u z => ?_) fun b u z => ?_
    · by_cases hb : b = a
      · subst hb
        have z' := track_at.symm.trans z
        cases z'
        exact ⟨ha, by rw [List.length_map]; exact line, us, _, rel, ha⟩
      · rw [track_off hb] at z
        cases z
    · by_cases hb : b = a
      · subst hb
        have z' := track_at.symm.trans z
        cases z'
        exact ⟨rfl, hk, _, _, rfl⟩
      · rw [track_off hb] at z
        cases z
  | some o =>
    have e := kin a o hk
    rw [ha] at e
    have e' := Option.some.inj e
    subst e'
    have small : us.toArray.size ≤ sizeLine := by rw [List.size_toArray, size]; exact line
    refine go (fun _ => none) (.inr ⟨_, us.toArray, _, hk, rfl, rfl, rfl, small, by simpa using rel⟩) (fun b u z => ?_) fun b u z => ?_
    · have z' : (none : Option HO) = some u := z
      cases z'
    · have z' : (none : Option HO) = some u := z
      cases z'

/-- what k_head leaves, from the law's promise -/
theorem walkG {l : PySem.W.OpenLaw} {n k : Nat} {q : Program} {loose : List Str} {XP : (Str → Option Value) → Heap → Prop} {YP : World → Heap → Prop} {d : DefRec} {K : Params → PySem.W.Frag} {sp : PySem.W.Frag → Sp} {x : Str}
    (most : l.most = some n) (line : n ≤ sizeLine) (nodef : d.params.defaults = []) (room : Room k callerA) (hY : ∀ (w : World) (h : Heap), YP w h → (K w.params).In h)
    (F : ∀ (w : World) (mg : Str → Option Value) (fa : Addr) (h : Heap), (K w.params).In h → h.Ns mainGlobals mg → mg d.name = some (.ref fa) →
      ∃ fd : FuncData, (∀ (s : Shared) (u : Value), BindsTo s fd ⟨[u], []⟩ [(x, u)]) ∧
        ∀ base : Heap, (K w.params).In base → base.Ns mainGlobals mg → FnG l.prog w (K w.params) mg base CX0 k fa fd [x] (sp (K w.params)))
    (hsp : ∀ (K : PySem.W.Frag) (H : Hp) (a : Addr) (ns : List Int), ns.length ≤ n → SqL K H a (ns.map V.int) → sp K [.ref a] H (fun v _ => v = .bl true) fun _ _ _ => False) :
    PySem.W.WalkO q loose XP YP l.row.toRowW d [] (fun f vs => PySem.call f vs) := by
  refine Att.attach_call most nodef fun w s0 s1 mg mb fa o pm cd doc a vs ns G Y _ _ _ named obj whole few gens => ?_
  have kin := hY w _ Y
  obtain ⟨fd, bind, all⟩ := F w mg fa _ kin G.T.g named
  exact lawG kin G.T.g G.T.b G.T.builtins G.T.nolimit gens obj whole (Nat.le_trans few line) room all bind fun H hS => hsp _ H a ns few hS
end Zg

namespace Zd
open PySem PySem.Spec PyProof.Rows L2

/-! ### values as trees -/
inductive Dat where
  | non | bl (b : Bool) | int (i : Int) | str (x : Str)
  | tup (ds : List Dat) | lst (ds : List Dat)
  | dic (ks : List Key) (ds : List Dat)
  | obj (c : String) (fs : List Str) (ds : List Dat)
  | loc (n : Nat)
  | ty (n : String) | cls (c : String)
  | scr (ns : List Int)
/-- what is known of the places: the written part, the classes' addresses -/
structure Cz where
  K : PySem.W.Frag
  κ : String → Addr
/-- the places that may be written: shared ones by number, the frame's own ones -/
structure Pl where
  α : List Addr
  ω : List Addr
  γ : List Addr
def Pl.has (p : Pl) (a : Addr) : Prop := a ∈ p.α ∨ a ∈ p.ω ∨ a ∈ p.γ
def LstAt (Z : Cz) (H : Hp) (p : Pl) (a : Addr) (vs : List V) : Prop := H a = some (.lst vs) ∧ ¬ p.has a
def TupAt (Z : Cz) (H : Hp) (p : Pl) (a : Addr) (vs : List V) : Prop := (Rd H a (.tup vs) ∧ ¬ p.has a) ∨ ∀ H', SqT Z.K H' a vs
def DicAt (H : Hp) (p : Pl) (a : Addr) (kvs : List (Key × V)) : Prop := H a = some (.dK kvs) ∧ ¬ p.has a
def ObjAt (H : Hp) (p : Pl) (a C : Addr) (fs : List (Str × V)) : Prop := (∃ dx, H a = some (.ins C dx fs)) ∧ ¬ p.has a
mutual
def IsD (Z : Cz) (H : Hp) (p : Pl) (v : V) : Dat → Prop
  | .non => v = .non
  | .bl b => v = .bl b
  | .int i => v = .int i
  | .str x => v = .str x
  | .ty n => v = .ty n
  | .cls c => v = .ref (Z.κ c)
  | .scr ns => ∃ a, v = .ref a ∧ ((Rd H a (.lst (ns.map V.int)) ∧ ¬ p.has a) ∨ ∀ H', SqL Z.K H' a (ns.map V.int))
  | .tup ds => ∃ a vs, v = .ref a ∧ TupAt Z H p a vs ∧ IsDs Z H p vs ds
  | .lst ds => ∃ a vs, v = .ref a ∧ LstAt Z H p a vs ∧ IsDs Z H p vs ds
  | .dic ks ds => ∃ a vs, v = .ref a ∧ DicAt H p a (ks.zip vs) ∧ ks.length = vs.length ∧ IsDs Z H p vs ds
  | .obj c fs ds => ∃ a vs, v = .ref a ∧ ObjAt H p a (Z.κ c) (fs.zip vs) ∧ fs.length = vs.length ∧ IsDs Z H p vs ds
  | .loc n => ∃ a, v = .ref a ∧ p.α[n]? = some a
def IsDs (Z : Cz) (H : Hp) (p : Pl) (vs : List V) : List Dat → Prop
  | [] => vs = []
  | d :: ds => ∃ v r, vs = v :: r ∧ IsD Z H p v d ∧ IsDs Z H p r ds
end
/-- a container whose top may be the frame's own, its items may not -/
def IsW (Z : Cz) (H : Hp) (p : Pl) (v : V) : Dat → Prop
  | .lst ds => ∃ a vs, v = .ref a ∧ (H a = some (.lst vs) ∧ a ∉ p.α ∧ a ∉ p.γ) ∧ IsDs Z H p vs ds
  | .dic ks ds => ∃ a vs, v = .ref a ∧ (H a = some (.dK (ks.zip vs)) ∧ a ∉ p.α ∧ a ∉ p.γ) ∧ ks.length = vs.length ∧ IsDs Z H p vs ds
  | .obj c fs ds => ∃ a vs, v = .ref a ∧ ((∃ dx, H a = some (.ins (Z.κ c) dx (fs.zip vs))) ∧ a ∉ p.α ∧ a ∉ p.γ) ∧ fs.length = vs.length ∧ IsDs Z H p vs ds
  | d => IsD Z H p v d
/-- from here to there: places come, what may not be written stays -/
structure Ext (H : Hp) (p : Pl) (H' : Hp) (p' : Pl) : Prop where
  α : ∃ β, p'.α = p.α ++ β ∧ ∀ b ∈ β, H b = none
  ω : ∃ β, p'.ω = p.ω ++ β ∧ ∀ b ∈ β, H b = none
  γ : p'.γ = p.γ
  k : ∀ a o, H a = some o → a ∉ p.α → a ∉ p.ω → H' a = some o
  t : ∀ a, H a ≠ none → H' a ≠ none
/-- the same of an expression: the own places stay, too -/
structure ExtE (H : Hp) (p : Pl) (H' : Hp) (p' : Pl) : Prop where
  α : ∃ β, p'.α = p.α ++ β ∧ ∀ b ∈ β, H b = none
  ω : p'.ω = p.ω
  γ : p'.γ = p.γ
  k : ∀ a o, H a = some o → a ∉ p.α → H' a = some o
  t : ∀ a, H a ≠ none → H' a ≠ none
theorem ExtE.s {H H' : Hp} {p p' : Pl} (e : ExtE H p H' p') : Ext H p H' p' := ⟨e.α, ⟨[], by rw [e.ω, List.append_nil], by simp⟩, e.γ, fun a o h n _ => e.k a o h n, e.t⟩
theorem ExtE.refl {H : Hp} {p : Pl} : ExtE H p H p := ⟨⟨[], by simp⟩, rfl, rfl, fun _ _ h _ => h, fun _ h => h⟩
theorem Ext.refl {H : Hp} {p : Pl} : Ext H p H p := ExtE.refl.s
theorem Ext.has {H H' : Hp} {p p' : Pl} (e : Ext H p H' p') {a : Addr} {o : HO} (h : H a = some o) (n : ¬ p.has a) : ¬ p'.has a := by
  obtain ⟨β, e1, f1⟩ := e.α
  obtain ⟨γ, e2, f2⟩ := e.ω
  rintro (q | q | q)
  · rw [e1] at q
    rcases List.mem_append.mp q with q | q
    · exact n (.inl q)
    · rw [f1 a q] at h; cases h
  · rw [e2] at q
    rcases List.mem_append.mp q with q | q
    · exact n (.inr (.inl q))
    · rw [f2 a q] at h; cases h
  · rw [e.γ] at q
    exact n (.inr (.inr q))
theorem back_of {H H1 : Hp} (t : ∀ a, H a ≠ none → H1 a ≠ none) {b : Addr} (q : H1 b = none) : H b = none := by
  cases z : H b with
  | none => rfl
  | some o => exact absurd q (t b (by rw [z]; exact nofun))
theorem fresh_app {H H1 : Hp} (t : ∀ a, H a ≠ none → H1 a ≠ none) {α α1 α2 : List Addr} (h : ∃ β, α1 = α ++ β ∧ ∀ b ∈ β, H b = none) (g : ∃ β, α2 = α1 ++ β ∧ ∀ b ∈ β, H1 b = none) : ∃ β, α2 = α ++ β ∧ ∀ b ∈ β, H b = none := by
  obtain ⟨β, e1, f1⟩ := h
  obtain ⟨γ, e2, f2⟩ := g
  refine ⟨β ++ γ, by rw [e2, e1, List.append_assoc], fun b q => ?_⟩
  rcases List.mem_append.mp q with q | q
  · exact f1 b q
  · exact back_of t (f2 b q)
theorem not_fresh {H : Hp} {α α1 : List Addr} (h : ∃ β, α1 = α ++ β ∧ ∀ b ∈ β, H b = none) {a : Addr} {o : HO} (e : H a = some o) (n : a ∉ α) : a ∉ α1 := by
  obtain ⟨β, e1, f1⟩ := h
  intro q
  rw [e1] at q
  rcases List.mem_append.mp q with q | q
  · exact n q
  · rw [f1 a q] at e; cases e
theorem Ext.trans {H H1 H2 : Hp} {p p1 p2 : Pl} (e : Ext H p H1 p1) (f : Ext H1 p1 H2 p2) : Ext H p H2 p2 :=
  ⟨fresh_app e.t e.α f.α, fresh_app e.t e.ω f.ω, f.γ.trans e.γ, fun a o h n m => f.k a o (e.k a o h n m) (not_fresh e.α h n) (not_fresh e.ω h m), fun a h => f.t a (e.t a h)⟩
theorem ExtE.trans {H H1 H2 : Hp} {p p1 p2 : Pl} (e : ExtE H p H1 p1) (f : ExtE H1 p1 H2 p2) : ExtE H p H2 p2 :=
  ⟨fresh_app e.t e.α f.α, f.ω.trans e.ω, f.γ.trans e.γ, fun a o h n => f.k a o (e.k a o h n) (not_fresh e.α h n), fun a h => f.t a (e.t a h)⟩
theorem ExtE.same {H H' : Hp} {p : Pl} (s : Same H H') : ExtE H p H' p :=
  ⟨⟨[], by simp⟩, rfl, rfl, fun b u e _ => s b u e, fun b n => by
    cases q : H b with
    | none => exact absurd q n
    | some o => rw [s b o q]; exact nofun⟩
theorem same_new {H : Hp} {p : Addr} {o : HO} (h : H p = none) : Same H (upd H p o) := fun b u e => (upd_ne (ne_of_none e h)).trans e
theorem ExtE.new {H : Hp} {p : Pl} {a : Addr} {o : HO} (h : H a = none) : ExtE H p (upd H a o) p := .same (same_new h)
theorem Ext.keep {H H' : Hp} {p p' : Pl} (e : Ext H p H' p') {a : Addr} {o : HO} (h : H a = some o) (n : ¬ p.has a) : H' a = some o := e.k a o h (fun q => n (.inl q)) fun q => n (.inr (.inl q))
theorem Rd.ext {H H' : Hp} {p p' : Pl} (e : Ext H p H' p') {a : Addr} {u : HO} (r : Rd H a u) (n : ¬ p.has a) : Rd H' a u ∧ ¬ p'.has a := by
  rcases r with r | ⟨o, r⟩
  · exact ⟨.inl (e.keep r n), e.has r n⟩
  · exact ⟨.inr ⟨o, e.keep r n⟩, e.has r n⟩
section
variable {Z : Cz} {H H' : Hp} {p p' : Pl}
theorem LstAt.ext (e : Ext H p H' p') {a : Addr} {vs : List V} (h : LstAt Z H p a vs) : LstAt Z H' p' a vs := ⟨e.keep h.1 h.2, e.has h.1 h.2⟩
theorem TupAt.ext (e : Ext H p H' p') {a : Addr} {vs : List V} (h : TupAt Z H p a vs) : TupAt Z H' p' a vs := h.imp (fun q => Rd.ext e q.1 q.2) id
theorem LstAt.sq {a : Addr} {vs : List V} (h : LstAt Z H p a vs) : SqL Z.K H a vs := SqL.of h.1
theorem TupAt.sq {a : Addr} {vs : List V} (h : TupAt Z H p a vs) : SqT Z.K H a vs := h.elim (fun q => .inl q.1) fun q => q H
mutual
theorem IsD.ext (e : Ext H p H' p') : ∀ (d : Dat) {v : V}, IsD Z H p v d → IsD Z H' p' v d
  | .non, _, h => by unfold IsD at h ⊢; exact h
  | .bl b, _, h => by unfold IsD at h ⊢; exact h
  | .int i, _, h => by unfold IsD at h ⊢; exact h
  | .str x, _, h => by unfold IsD at h ⊢; exact h
  | .ty n, _, h => by unfold IsD at h ⊢; exact h
  | .cls c, _, h => by unfold IsD at h ⊢; exact h
  | .scr ns, _, h => by
    unfold IsD at h ⊢
    obtain ⟨a, rfl, h1⟩ := h
    exact ⟨a, rfl, h1.imp (fun q => Rd.ext e q.1 q.2) id⟩
  | .tup ds, _, h => by
    unfold IsD at h ⊢
    obtain ⟨a, vs, rfl, h1, h2⟩ := h
    exact ⟨a, vs, rfl, h1.ext e, IsDs.ext e ds h2⟩
  | .lst ds, _, h => by
    unfold IsD at h ⊢
    obtain ⟨a, vs, rfl, h1, h2⟩ := h
    exact ⟨a, vs, rfl, h1.ext e, IsDs.ext e ds h2⟩
  | .dic ks ds, _, h => by
    unfold IsD at h ⊢
    obtain ⟨a, vs, rfl, h1, hl, h2⟩ := h
    exact ⟨a, vs, rfl, ⟨e.keep h1.1 h1.2, e.has h1.1 h1.2⟩, hl, IsDs.ext e ds h2⟩
  | .obj c fs ds, _, h => by
    unfold IsD at h ⊢
    obtain ⟨a, vs, rfl, ⟨⟨dx, h1⟩, n⟩, hl, h2⟩ := h
    exact ⟨a, vs, rfl, ⟨⟨dx, e.keep h1 n⟩, e.has h1 n⟩, hl, IsDs.ext e ds h2⟩
  | .loc n, _, h => by
    unfold IsD at h ⊢
    obtain ⟨a, rfl, h1⟩ := h
    obtain ⟨β, e1, _⟩ := e.α
    refine ⟨a, rfl, ?_⟩
    rw [e1, List.getElem?_append_left (List.getElem?_eq_some_iff.mp h1).1]
    exact h1
theorem IsDs.ext (e : Ext H p H' p') : ∀ (ds : List Dat) {vs : List V}, IsDs Z H p vs ds → IsDs Z H' p' vs ds
  | [], _, h => by unfold IsDs at h ⊢; exact h
  | d :: ds, _, h => by
    unfold IsDs at h ⊢
    obtain ⟨v, r, rfl, h1, h2⟩ := h
    exact ⟨v, r, rfl, IsD.ext e d h1, IsDs.ext e ds h2⟩
end
theorem isD_non {v : V} : IsD Z H p v .non ↔ v = .non := by unfold IsD; rfl
theorem isD_bl {v : V} {b : Bool} : IsD Z H p v (.bl b) ↔ v = .bl b := by unfold IsD; rfl
theorem isD_int {v : V} {i : Int} : IsD Z H p v (.int i) ↔ v = .int i := by unfold IsD; rfl
theorem isD_str {v : V} {x : Str} : IsD Z H p v (.str x) ↔ v = .str x := by unfold IsD; rfl
theorem isD_ty {v : V} {x : String} : IsD Z H p v (.ty x) ↔ v = .ty x := by unfold IsD; rfl
theorem isD_tup {v : V} {ds : List Dat} : IsD Z H p v (.tup ds) ↔ ∃ a vs, v = .ref a ∧ TupAt Z H p a vs ∧ IsDs Z H p vs ds := by
  constructor <;> (intro h; unfold IsD at *; exact h)
theorem isD_lst {v : V} {ds : List Dat} : IsD Z H p v (.lst ds) ↔ ∃ a vs, v = .ref a ∧ LstAt Z H p a vs ∧ IsDs Z H p vs ds := by
  constructor <;> (intro h; unfold IsD at *; exact h)
theorem isD_dic {v : V} {ks : List Key} {ds : List Dat} : IsD Z H p v (.dic ks ds) ↔ ∃ a vs, v = .ref a ∧ DicAt H p a (ks.zip vs) ∧ ks.length = vs.length ∧ IsDs Z H p vs ds := by
  constructor <;> (intro h; unfold IsD at *; exact h)
theorem isD_obj {v : V} {c : String} {fs : List Str} {ds : List Dat} : IsD Z H p v (.obj c fs ds) ↔ ∃ a vs, v = .ref a ∧ ObjAt H p a (Z.κ c) (fs.zip vs) ∧ fs.length = vs.length ∧ IsDs Z H p vs ds := by
  constructor <;> (intro h; unfold IsD at *; exact h)
theorem isD_loc {v : V} {n : Nat} : IsD Z H p v (.loc n) ↔ ∃ a, v = .ref a ∧ p.α[n]? = some a := by
  constructor <;> (intro h; unfold IsD at *; exact h)
theorem isD_scr {v : V} {ns : List Int} : IsD Z H p v (.scr ns) ↔ ∃ a, v = .ref a ∧ ((Rd H a (.lst (ns.map V.int)) ∧ ¬ p.has a) ∨ ∀ H', SqL Z.K H' a (ns.map V.int)) := by
  constructor <;> (intro h; unfold IsD at *; exact h)
theorem isDs_nil {vs : List V} : IsDs Z H p vs [] ↔ vs = [] := by unfold IsDs; rfl
theorem isDs_cons {vs : List V} {d : Dat} {ds : List Dat} : IsDs Z H p vs (d :: ds) ↔ ∃ v r, vs = v :: r ∧ IsD Z H p v d ∧ IsDs Z H p r ds := by
  rw [IsDs]
theorem IsDs.len : ∀ {ds : List Dat} {vs : List V}, IsDs Z H p vs ds → vs.length = ds.length
  | [], _, h => by rw [isDs_nil.mp h]; rfl
  | d :: ds, _, h => by
    obtain ⟨v, r, rfl, _, h2⟩ := isDs_cons.mp h
    rw [List.length_cons, List.length_cons, IsDs.len h2]
theorem IsDs.get : ∀ {ds : List Dat} {vs : List V} {i : Nat} {d : Dat}, IsDs Z H p vs ds → ds[i]? = some d → ∃ v, vs[i]? = some v ∧ IsD Z H p v d
  | [], _, i, d, _, e => by simp at e
  | c :: ds, _, 0, d, h, e => by
    obtain ⟨v, r, rfl, h1, _⟩ := isDs_cons.mp h
    simp at e
    subst e
    exact ⟨v, rfl, h1⟩
  | c :: ds, _, i + 1, d, h, e => by
    obtain ⟨v, r, rfl, _, h2⟩ := isDs_cons.mp h
    obtain ⟨u, q1, q2⟩ := IsDs.get (i := i) h2 (by simpa using e)
    exact ⟨u, by simpa using q1, q2⟩
theorem IsDs.append : ∀ {ds es : List Dat} {vs ws : List V}, IsDs Z H p vs ds → IsDs Z H p ws es → IsDs Z H p (vs ++ ws) (ds ++ es)
  | [], _, _, _, h, g => by rw [isDs_nil.mp h]; exact g
  | d :: ds, _, _, _, h, g => by
    obtain ⟨v, r, rfl, h1, h2⟩ := isDs_cons.mp h
    exact isDs_cons.mpr ⟨v, _, rfl, h1, IsDs.append h2 g⟩
theorem IsDs.one {v : V} {d : Dat} (h : IsD Z H p v d) : IsDs Z H p [v] [d] := isDs_cons.mpr ⟨v, [], rfl, h, isDs_nil.mpr rfl⟩
theorem IsDs.drop : ∀ {ds : List Dat} {vs : List V} (n : Nat), IsDs Z H p vs ds → IsDs Z H p (vs.drop n) (ds.drop n)
  | _, _, 0, h => h
  | [], _, n + 1, h => by rw [isDs_nil.mp h]; exact isDs_nil.mpr rfl
  | d :: ds, _, n + 1, h => by
    obtain ⟨v, r, rfl, _, h2⟩ := isDs_cons.mp h
    exact IsDs.drop n h2
theorem IsDs.take : ∀ {ds : List Dat} {vs : List V} (n : Nat), IsDs Z H p vs ds → IsDs Z H p (vs.take n) (ds.take n)
  | _, _, 0, _ => isDs_nil.mpr rfl
  | [], _, n + 1, h => by rw [isDs_nil.mp h]; exact isDs_nil.mpr rfl
  | d :: ds, _, n + 1, h => by
    obtain ⟨v, r, rfl, h1, h2⟩ := isDs_cons.mp h
    exact isDs_cons.mpr ⟨v, _, rfl, h1, IsDs.take n h2⟩
theorem IsDs.set : ∀ {ds : List Dat} {vs : List V} {u : V} {e : Dat} (i : Nat), IsDs Z H p vs ds → IsD Z H p u e → IsDs Z H p (vs.set i u) (ds.set i e)
  | [], _, _, _, _, h, _ => by rw [isDs_nil.mp h]; exact isDs_nil.mpr rfl
  | d :: ds, _, u, e, 0, h, g => by
    obtain ⟨v, r, rfl, _, h2⟩ := isDs_cons.mp h
    exact isDs_cons.mpr ⟨u, r, rfl, g, h2⟩
  | d :: ds, _, u, e, i + 1, h, g => by
    obtain ⟨v, r, rfl, h1, h2⟩ := isDs_cons.mp h
    exact isDs_cons.mpr ⟨v, _, rfl, h1, IsDs.set i h2 g⟩
theorem IsDs.rev : ∀ {ds : List Dat} {vs : List V}, IsDs Z H p vs ds → IsDs Z H p vs.reverse ds.reverse
  | [], _, h => by rw [isDs_nil.mp h]; exact isDs_nil.mpr rfl
  | d :: ds, _, h => by
    obtain ⟨v, r, rfl, h1, h2⟩ := isDs_cons.mp h
    rw [List.reverse_cons, List.reverse_cons]
    exact IsDs.append (IsDs.rev h2) (.one h1)
/-- strong is weak -/
theorem IsD.w {v : V} {d : Dat} (h : IsD Z H p v d) : IsW Z H p v d := by
  cases d with
  | lst ds =>
    obtain ⟨a, vs, rfl, h1, h2⟩ := isD_lst.mp h
    exact ⟨a, vs, rfl, ⟨h1.1, fun z => h1.2 (.inl z), fun z => h1.2 (.inr (.inr z))⟩, h2⟩
  | dic ks ds =>
    obtain ⟨a, vs, rfl, h1, hl, h2⟩ := isD_dic.mp h
    exact ⟨a, vs, rfl, ⟨h1.1, fun z => h1.2 (.inl z), fun z => h1.2 (.inr (.inr z))⟩, hl, h2⟩
  | obj c fs ds =>
    obtain ⟨a, vs, rfl, h1, hl, h2⟩ := isD_obj.mp h
    exact ⟨a, vs, rfl, ⟨h1.1, fun z => h1.2 (.inl z), fun z => h1.2 (.inr (.inr z))⟩, hl, h2⟩
  | _ => exact h
end

/-! ### the store, the slots -/
def IsTop (Z : Cz) (H : Hp) (p : Pl) (a : Addr) : Dat → Prop
  | .lst ds => ∃ vs, H a = some (.lst vs) ∧ IsDs Z H p vs ds
  | .dic ks ds => ∃ vs, H a = some (.dK (ks.zip vs)) ∧ ks.length = vs.length ∧ IsDs Z H p vs ds
  | .obj c fs ds => ∃ dx vs, H a = some (.ins (Z.κ c) dx (fs.zip vs)) ∧ fs.length = vs.length ∧ IsDs Z H p vs ds
  | _ => False
structure IsS (Z : Cz) (H : Hp) (p : Pl) (S : List Dat) : Prop where
  len : p.α.length = S.length
  nd : p.α.Nodup
  dj : ∀ a ∈ p.ω, a ∉ p.α ∧ a ∉ p.γ
  dg : ∀ a ∈ p.γ, a ∉ p.α
  wt : ∀ a, a ∈ p.ω ∨ a ∈ p.γ → H a ≠ none
  at_ : ∀ (n : Nat) (a : Addr) (d : Dat), p.α[n]? = some a → S[n]? = some d → IsTop Z H p a d
theorem IsTop.there {Z : Cz} {H : Hp} {p : Pl} {a : Addr} {d : Dat} (h : IsTop Z H p a d) : H a ≠ none := by
  cases d with
  | lst ds => obtain ⟨vs, e, _⟩ := h; rw [e]; exact nofun
  | dic ks ds => obtain ⟨vs, e, _⟩ := h; rw [e]; exact nofun
  | obj c fs ds => obtain ⟨dx, vs, e, _⟩ := h; rw [e]; exact nofun
  | _ => exact h.elim
theorem IsS.tracked {Z : Cz} {H : Hp} {p : Pl} {S : List Dat} (h : IsS Z H p S) {a : Addr} (q : p.has a) : H a ≠ none := by
  rcases q with q | q
  · obtain ⟨n, hn⟩ := List.getElem?_of_mem q
    have lt := (List.getElem?_eq_some_iff.mp hn).1
    exact (h.at_ n a (S[n]'(h.len ▸ lt)) hn (List.getElem?_eq_getElem (h.len ▸ lt))).there
  · exact h.wt a q
abbrev Env := List (Option Dat)
/-- the slots: O tells the own ones (a place of the frame's alone) -/
structure IsE (Z : Cz) (O : List Nat) (H : Hp) (p : Pl) (σ : L2.St) (ρ : Env) : Prop where
  len : σ.length = ρ.length
  get : ∀ (i : Nat) (d : Dat), i ∉ O → ρ[i]? = some (some d) → ∃ v, σ[i]? = some (some v) ∧ IsD Z H p v d
  own : ∀ (i : Nat) (d : Dat), i ∈ O → ρ[i]? = some (some d) → ∃ a, σ[i]? = some (some (.ref a)) ∧ a ∈ p.ω ∧ IsTop Z H p a d
  dj : ∀ (i j : Nat) (a : Addr), i ∈ O → j ∈ O → i ≠ j → (∃ d, ρ[i]? = some (some d)) → (∃ d, ρ[j]? = some (some d)) → σ[i]? = some (some (.ref a)) → σ[j]? ≠ some (some (.ref a))
theorem IsTop.ext {Z : Cz} {H H' : Hp} {p p' : Pl} (e : Ext H p H' p') {a : Addr} (k : ∀ o, H a = some o → H' a = some o) {d : Dat} (h : IsTop Z H p a d) : IsTop Z H' p' a d := by
  cases d with
  | lst ds => obtain ⟨vs, e1, h1⟩ := h; exact ⟨vs, k _ e1, h1.ext e⟩
  | dic ks ds => obtain ⟨vs, e1, l, h1⟩ := h; exact ⟨vs, k _ e1, l, h1.ext e⟩
  | obj c fs ds => obtain ⟨dx, vs, e1, l, h1⟩ := h; exact ⟨dx, vs, k _ e1, l, h1.ext e⟩
  | _ => exact h.elim
theorem IsE.ext {Z : Cz} {O : List Nat} {H H' : Hp} {p p' : Pl} {σ : L2.St} {ρ : Env} {S : List Dat} (e : ExtE H p H' p') (s : IsS Z H p S) (h : IsE Z O H p σ ρ) : IsE Z O H' p' σ ρ := by
  refine ⟨h.len, fun i d n q => ?_, fun i d n q => ?_, h.dj⟩
  · obtain ⟨v, h1, h2⟩ := h.get i d n q
    exact ⟨v, h1, h2.ext e.s⟩
  · obtain ⟨a, h1, h2, h3⟩ := h.own i d n q
    exact ⟨a, h1, by rw [e.ω]; exact h2, h3.ext e.s fun o z => e.k a o z (s.dj a h2).1⟩
/-- the store stays where its places do -/
theorem IsS.ext {Z : Cz} {H H' : Hp} {p : Pl} {S : List Dat} (sm : Same H H') (s : IsS Z H p S) : IsS Z H' p S :=
  ⟨s.len, s.nd, s.dj, s.dg, fun a q z => s.wt a q (back_of (ExtE.same (p := p) sm).t z), fun n a d h1 h2 => (s.at_ n a d h1 h2).ext (ExtE.same sm).s fun o z => sm a o z⟩
end Zd

namespace Zd
open PySem PySem.Spec PyProof.Rows L2

/-! ### what a program does with trees -/
inductive Out (α : Type) where
  | ok (a : α) (S : List Dat)
  | er (c : String) (fs : List Dat) (S : List Dat)
  | bad
def M (α : Type) : Type := List Dat → Out α
def M.ret {α : Type} (a : α) : M α := fun S => .ok a S
def M.bnd {α β : Type} (m : M α) (f : α → M β) : M β := fun S => match m S with
  | .ok a S' => f a S'
  | .er c fs S' => .er c fs S'
  | .bad => .bad
def M.no {α : Type} : M α := fun _ => .bad
instance : Monad M where
  pure := M.ret
  bind := M.bnd
theorem m_pure {α : Type} (a : α) (S : List Dat) : (pure a : M α) S = .ok a S := rfl
theorem m_bind {α β : Type} (m : M α) (f : α → M β) (S : List Dat) : (m >>= f) S = match m S with
  | .ok a S' => f a S'
  | .er c fs S' => .er c fs S'
  | .bad => .bad := rfl
instance : LawfulMonad M := LawfulMonad.mk' M (fun m => by funext S; show M.bnd m M.ret S = m S; unfold M.bnd M.ret; cases m S <;> rfl) (fun _ _ => rfl) (fun m f g => by
  funext S
  show M.bnd (M.bnd m f) g S = M.bnd m (fun x => M.bnd (f x) g) S
  unfold M.bnd
  cases m S <;> rfl)
/-- a test of one's own: what is not so is not spoken of -/
def M.need (b : Bool) : M Unit := if b then pure () else M.no
def M.opt {α : Type} : Option α → M α
  | some a => pure a
  | none => M.no
inductive Flow where
  | nx (ρ : Env) | rt (d : Dat) | bk (ρ : Env) | ct (ρ : Env)

/-! ### what is known behind it -/
abbrev ErW := String → List Dat → List Dat → Hp → List Addr → List Addr → Prop
abbrev XR := Hp → Pl → Hp → Pl → Prop
def Post {α : Type} (Z : Cz) (Er : ErW) (X : XR) (o : Out α) (H : Hp) (p : Pl) (C : α → List Dat → Hp → Pl → Prop) : Prop := match o with
  | .ok a S' => ∀ H' p', X H p H' p' → IsS Z H' p' S' → C a S' H' p'
  | .er c fs S' => ∀ H' p', X H p H' p' → IsS Z H' p' S' → Er c fs S' H' p'.α p'.γ
  | .bad => False
structure XOk (X : XR) : Prop where
  refl : ∀ {H p}, X H p H p
  trans : ∀ {H p H1 p1 H2 p2}, X H p H1 p1 → X H1 p1 H2 p2 → X H p H2 p2
  of : ∀ {H p H' p'}, ExtE H p H' p' → X H p H' p'
  s : ∀ {H p H' p'}, X H p H' p' → Ext H p H' p'
theorem xE : XOk ExtE := ⟨ExtE.refl, fun a b => a.trans b, id, ExtE.s⟩
theorem xS : XOk Ext := ⟨Ext.refl, fun a b => a.trans b, ExtE.s, id⟩
section
variable {Z : Cz} {Er : ErW} {X : XR} {α β : Type} {o : Out α} {H : Hp} {p : Pl} {S : List Dat}
theorem Post.bnd (x : XOk X) {m : M α} {f : α → M β} {C : β → List Dat → Hp → Pl → Prop} (h : Post Z Er X ((m >>= f) S) H p C) : Post Z Er X (m S) H p fun a S' H' p' => Post Z Er X (f a S') H' p' C := by
  rw [m_bind] at h
  cases q : m S with
  | ok a S' =>
    rw [q] at h
    show ∀ H' p', X H p H' p' → IsS Z H' p' S' → Post Z Er X (f a S') H' p' C
    intro H' p' e s
    have h : Post Z Er X (f a S') H p C := h
    unfold Post at h ⊢
    cases q2 : f a S' with
    | ok b S2 => rw [q2] at h; exact fun H2 p2 e2 s2 => h H2 p2 (x.trans e e2) s2
    | er c fs S2 => rw [q2] at h; exact fun H2 p2 e2 s2 => h H2 p2 (x.trans e e2) s2
    | bad => rw [q2] at h; exact h
  | er c fs S' =>
    rw [q] at h
    exact h
  | bad =>
    rw [q] at h
    exact h
/-- the same, from the same place -/
theorem Post.bndK {m : M α} {f : α → M β} {C : β → List Dat → Hp → Pl → Prop} (h : Post Z Er X ((m >>= f) S) H p C) : Post Z Er X (m S) H p fun a S' _ _ => Post Z Er X (f a S') H p C := by
  rw [m_bind] at h
  cases q : m S with
  | ok a S' => rw [q] at h; exact fun _ _ _ _ => h
  | er c fs S' => rw [q] at h; exact h
  | bad => rw [q] at h; exact h
theorem Post.mono {C D : α → List Dat → Hp → Pl → Prop} (h : Post Z Er X o H p C) (k : ∀ a S' H' p', X H p H' p' → IsS Z H' p' S' → C a S' H' p' → D a S' H' p') : Post Z Er X o H p D := by
  unfold Post at h ⊢
  cases o with
  | ok a S' => exact fun H' p' e s => k a S' H' p' e s (h H' p' e s)
  | er c fs S' => exact h
  | bad => exact h
theorem Post.pure {a : α} {C : α → List Dat → Hp → Pl → Prop} (x : XOk X) (h : Post Z Er X ((Pure.pure a : M α) S) H p C) (s : IsS Z H p S) : C a S H p := h H p x.refl s
theorem Post.of {C : α → List Dat → Hp → Pl → Prop} (x : XOk X) (h : Post Z Er X o H p C) : Post Z Er ExtE o H p C := by
  unfold Post at h ⊢
  cases o with
  | ok a S' => exact fun H' p' e s => h H' p' (x.of e) s
  | er c fs S' => exact fun H' p' e s => h H' p' (x.of e) s
  | bad => exact h
theorem Post.need {b : Bool} {m : M α} {C : α → List Dat → Hp → Pl → Prop} (h : Post Z Er X ((M.need b >>= fun _ => m) S) H p C) : b = true ∧ Post Z Er X (m S) H p C := by
  cases b with
  | true => exact ⟨rfl, h⟩
  | false => exact (show False from h).elim
theorem Post.opt {a : Option β} {f : β → M α} {C : α → List Dat → Hp → Pl → Prop} (h : Post Z Er X ((M.opt a >>= f) S) H p C) : ∃ b, a = some b ∧ Post Z Er X (f b S) H p C := by
  cases a with
  | some b => exact ⟨b, rfl, h⟩
  | none => exact (show False from h).elim
end

/-! ### readings and what they do with trees -/
def J (Z : Cz) (Er : ErW) (O : List Nat) {α β : Type} (Rel : Hp → Pl → β → α → Prop) (te : L2.St → Hp → (β → Hp → Prop) → Prop) (m : Env → M α) : Prop :=
  ∀ (σ : L2.St) (H : Hp) (p : Pl) (ρ : Env) (S : List Dat) (Q : β → Hp → Prop), IsE Z O H p σ ρ → IsS Z H p S → Post Z Er ExtE (m ρ S) H p (fun a _ H' p' => ∀ b, Rel H' p' b a → Q b H') → te σ H Q
abbrev JD (Z : Cz) (Er : ErW) (O : List Nat) (te : TE) (m : Env → M Dat) : Prop := J Z Er O (IsD Z) te m
abbrev JW (Z : Cz) (Er : ErW) (O : List Nat) (te : TE) (m : Env → M Dat) : Prop := J Z Er O (IsW Z) te m
abbrev JB (Z : Cz) (Er : ErW) (O : List Nat) (tt : TT) (m : Env → M Bool) : Prop := J Z Er O (fun _ _ b c => b = c) tt m
abbrev JA (Z : Cz) (Er : ErW) (O : List Nat) (ta : TA) (m : Env → M (List Dat)) : Prop := J Z Er O (IsDs Z) ta m
abbrev JO (Z : Cz) (Er : ErW) (O : List Nat) (to : TO) (m : Env → M (Option Int)) : Prop := J Z Er O (fun _ _ b c => b = c) to m
/-- a new list, dict, that nobody has -/
def JF (Z : Cz) (Er : ErW) (O : List Nat) (te : TE) (m : Env → M Dat) : Prop :=
  ∀ (σ : L2.St) (H : Hp) (p : Pl) (ρ : Env) (S : List Dat) (Q : V → Hp → Prop), IsE Z O H p σ ρ → IsS Z H p S → Post Z Er ExtE (m ρ S) H p (fun d S' H' p' => ∀ a, H a = none → H' a ≠ none → ¬ p'.has a → IsS Z H' ⟨p'.α, p'.ω ++ [a], p'.γ⟩ S' → IsTop Z H' ⟨p'.α, p'.ω ++ [a], p'.γ⟩ a d → Q (.ref a) H') → te σ H Q
/-- two-place, one-place operations on values -/
def JR (Z : Cz) (A1 A2 A3 : Hp → Pl → V → Dat → Prop) (r : L2.R2) (f : Dat → Dat → M Dat) : Prop :=
  ∀ (x y : V) (d e : Dat) (Er : ErW) (H : Hp) (p : Pl) (S : List Dat) (Q : VK), A1 H p x d → A2 H p y e → IsS Z H p S → Post Z Er ExtE (f d e S) H p (fun a _ H' p' => ∀ v, A3 H' p' v a → Q v H') → r x y H Q
def JU (Z : Cz) (A1 A3 : Hp → Pl → V → Dat → Prop) (r : V → Hp → VK → Prop) (f : Dat → M Dat) : Prop :=
  ∀ (x : V) (d : Dat) (Er : ErW) (H : Hp) (p : Pl) (S : List Dat) (Q : VK), A1 H p x d → IsS Z H p S → Post Z Er ExtE (f d S) H p (fun a _ H' p' => ∀ v, A3 H' p' v a → Q v H') → r x H Q
def JC (Z : Cz) (A1 : Hp → Pl → List V → List Dat → Prop) (A3 : Hp → Pl → V → Dat → Prop) (r : List V → Hp → VK → Prop) (f : List Dat → M Dat) : Prop :=
  ∀ (x : List V) (d : List Dat) (Er : ErW) (H : Hp) (p : Pl) (S : List Dat) (Q : VK), A1 H p x d → IsS Z H p S → Post Z Er ExtE (f d S) H p (fun a _ H' p' => ∀ v, A3 H' p' v a → Q v H') → r x H Q
section
variable {Z : Cz} {Er : ErW} {O : List Nat} {te ta tb tc : TE} {tt tu : TT} {m m1 m2 m3 : Env → M Dat} {mb mc : Env → M Bool}
theorem JD.w (h : JD Z Er O te m) : JW Z Er O te m := fun σ H p ρ S Q hE hS q => h σ H p ρ S Q hE hS (q.mono fun _ _ _ _ _ _ k v hv => k v hv.w)
def xVar (i : Nat) (ρ : Env) : M Dat := match ρ[i]? with
  | some (some d) => pure d
  | _ => M.no
theorem j_var {i : Nat} (n : i ∉ O) : JD Z Er O (tVar i) (xVar i) := fun σ H p ρ S Q hE hS q => by
  unfold xVar at q
  match e : ρ[i]?, q with
  | some (some d), q =>
    obtain ⟨v, h1, h2⟩ := hE.get i d n e
    exact ⟨v, h1, q.pure xE hS v h2⟩
  | some none, q => exact (show False from q).elim
  | none, q => exact (show False from q).elim
theorem IsTop.isW {H : Hp} {p : Pl} {S : List Dat} (s : IsS Z H p S) {a : Addr} (ha : a ∈ p.ω) {d : Dat} (h : IsTop Z H p a d) : IsW Z H p (.ref a) d := by
  obtain ⟨n1, n2⟩ := s.dj a ha
  cases d with
  | lst ds => obtain ⟨vs, e1, h1⟩ := h; exact ⟨a, vs, rfl, ⟨e1, n1, n2⟩, h1⟩
  | dic ks ds => obtain ⟨vs, e1, l, h1⟩ := h; exact ⟨a, vs, rfl, ⟨e1, n1, n2⟩, l, h1⟩
  | obj c fs ds => obtain ⟨dx, vs, e1, l, h1⟩ := h; exact ⟨a, vs, rfl, ⟨⟨dx, e1⟩, n1, n2⟩, l, h1⟩
  | _ => exact h.elim
theorem j_varO {i : Nat} (n : i ∈ O) : JW Z Er O (tVar i) (xVar i) := fun σ H p ρ S Q hE hS q => by
  unfold xVar at q
  match e : ρ[i]?, q with
  | some (some d), q =>
    obtain ⟨a, h1, h2, h3⟩ := hE.own i d n e
    exact ⟨_, h1, q.pure xE hS _ (h3.isW hS h2)⟩
  | some none, q => exact (show False from q).elim
  | none, q => exact (show False from q).elim
def xC (d : Dat) (_ : Env) : M Dat := pure d
theorem j_c {v : V} {d : Dat} (h : ∀ H p, IsD Z H p v d) : JD Z Er O (tC v) (xC d) := fun σ H p ρ S Q hE hS q => q.pure xE hS v (h H p)
theorem j_int {i : Int} : JD Z Er O (tC (.int i)) (xC (.int i)) := j_c fun _ _ => isD_int.mpr rfl
theorem j_str {i : Str} : JD Z Er O (tC (.str i)) (xC (.str i)) := j_c fun _ _ => isD_str.mpr rfl
theorem j_bl {i : Bool} : JD Z Er O (tC (.bl i)) (xC (.bl i)) := j_c fun _ _ => isD_bl.mpr rfl
theorem j_non : JD Z Er O (tC .non) (xC .non) := j_c fun _ _ => isD_non.mpr rfl
theorem j_ty {i : String} : JD Z Er O (tC (.ty i)) (xC (.ty i)) := j_c fun _ _ => isD_ty.mpr rfl
def xOp (f : Dat → Dat → M Dat) (a b : Env → M Dat) (ρ : Env) : M Dat := a ρ >>= fun x => b ρ >>= fun y => f x y
structure Up (Z : Cz) (R : Hp → Pl → V → Dat → Prop) : Prop where
  up : ∀ {H p H' p' v d S}, ExtE H p H' p' → IsS Z H p S → R H p v d → R H' p' v d
theorem upD : Up Z (IsD Z) := ⟨fun e _ h => h.ext e.s⟩
theorem upW : Up Z (IsW Z) := ⟨fun {H p H' p' v d S} e s h => by
  cases d with
  | lst ds =>
    obtain ⟨a, vs, rfl, ⟨r, n1, n2⟩, h2⟩ := h
    exact ⟨a, vs, rfl, ⟨e.k _ _ r n1, not_fresh e.α r n1, by rw [e.γ]; exact n2⟩, h2.ext e.s⟩
  | dic ks ds =>
    obtain ⟨a, vs, rfl, ⟨r, n1, n2⟩, l, h2⟩ := h
    exact ⟨a, vs, rfl, ⟨e.k _ _ r n1, not_fresh e.α r n1, by rw [e.γ]; exact n2⟩, l, h2.ext e.s⟩
  | obj c fs ds =>
    obtain ⟨a, vs, rfl, ⟨⟨dx, r⟩, n1, n2⟩, l, h2⟩ := h
    exact ⟨a, vs, rfl, ⟨⟨dx, e.k _ _ r n1⟩, not_fresh e.α r n1, by rw [e.γ]; exact n2⟩, l, h2.ext e.s⟩
  | non => exact IsD.ext e.s _ h
  | bl b => exact IsD.ext e.s _ h
  | int i => exact IsD.ext e.s _ h
  | str x => exact IsD.ext e.s _ h
  | tup ds => exact IsD.ext e.s _ h
  | loc n => exact IsD.ext e.s _ h
  | ty n => exact IsD.ext e.s _ h
  | cls n => exact IsD.ext e.s _ h
  | scr n => exact IsD.ext e.s _ h⟩
variable {A1 A2 A3 : Hp → Pl → V → Dat → Prop} {r : L2.R2} {f : Dat → Dat → M Dat}
theorem j_op (u : Up Z A1) (hr : JR Z A1 A2 A3 r f) (ha : J Z Er O A1 ta m1) (hb : J Z Er O A2 tb m2) : J Z Er O A3 (tOp r ta tb) (xOp f m1 m2) := fun σ H p ρ S Q hE hS q =>
  ha σ H p ρ S _ hE hS ((q.bnd xE).mono fun d S1 H1 p1 e1 s1 q1 v hv => hb σ H1 p1 ρ S1 _ (hE.ext e1 hS) s1 ((q1.bnd xE).mono fun e S2 H2 p2 e2 s2 q2 w hw => hr v w d e Er H2 p2 S2 _ (u.up e2 s1 hv) hw s2 q2))
def xUn (f : Dat → M Dat) (a : Env → M Dat) (ρ : Env) : M Dat := a ρ >>= f
theorem j_un {r : V → Hp → VK → Prop} {f : Dat → M Dat} (hr : JU Z A1 A3 r f) (ha : J Z Er O A1 ta m1) : J Z Er O A3 (tUn r ta) (xUn f m1) := fun σ H p ρ S Q hE hS q =>
  ha σ H p ρ S _ hE hS ((q.bnd xE).mono fun d S1 H1 p1 e1 s1 q1 v hv => hr v d Er H1 p1 S1 _ hv s1 q1)
/-! tests -/
def dB : Dat → Option Bool
  | .bl b => some b
  | _ => none
theorem dB_some {d : Dat} {b : Bool} (h : dB d = some b) : d = .bl b := by
  cases d <;> first | (cases h; rfl) | cases h
def bTest (a : Env → M Dat) (ρ : Env) : M Bool := a ρ >>= fun x => M.opt (dB x)
theorem opt_pure {α : Type} {a : Option α} {S : List Dat} {H : Hp} {p : Pl} {X : XR} {C : α → List Dat → Hp → Pl → Prop} (x : XOk X) (h : Post Z Er X (M.opt a S) H p C) (s : IsS Z H p S) : ∃ b, a = some b ∧ C b S H p := by
  cases a with
  | some b => exact ⟨b, rfl, h H p x.refl s⟩
  | none => exact (show False from h).elim
theorem jb_test (ha : JD Z Er O ta m1) : JB Z Er O (tTest ta) (bTest m1) := fun σ H p ρ S Q hE hS q =>
  ha σ H p ρ S _ hE hS ((q.bnd xE).mono fun d S1 H1 p1 e1 s1 q1 v hv => by
    obtain ⟨b, e, k⟩ := opt_pure xE q1 s1
    rw [dB_some e] at hv
    exact ⟨b, isD_bl.mp hv, k b rfl⟩)
theorem jb_B (ha : JD Z Er O ta m1) : JB Z Er O (tB ta) (bTest m1) := jb_test ha
def bAnd (a b : Env → M Bool) (ρ : Env) : M Bool := a ρ >>= fun x => if x = true then b ρ else pure false
def bOr (a b : Env → M Bool) (ρ : Env) : M Bool := a ρ >>= fun x => if x = true then pure true else b ρ
def bNot (a : Env → M Bool) (ρ : Env) : M Bool := a ρ >>= fun x => pure (!x)
theorem jb_and (ha : JB Z Er O tt mb) (hb : JB Z Er O tu mc) : JB Z Er O (tAnd tt tu) (bAnd mb mc) := fun σ H p ρ S Q hE hS q =>
  ha σ H p ρ S _ hE hS ((q.bnd xE).mono fun d S1 H1 p1 e1 s1 q1 v hv => by
    subst hv
    cases v with
    | true => exact hb σ H1 p1 ρ S1 Q (hE.ext e1 hS) s1 q1
    | false => exact Post.pure xE q1 s1 false rfl)
theorem jb_or (ha : JB Z Er O tt mb) (hb : JB Z Er O tu mc) : JB Z Er O (tOr tt tu) (bOr mb mc) := fun σ H p ρ S Q hE hS q =>
  ha σ H p ρ S _ hE hS ((q.bnd xE).mono fun d S1 H1 p1 e1 s1 q1 v hv => by
    subst hv
    cases v with
    | false => exact hb σ H1 p1 ρ S1 Q (hE.ext e1 hS) s1 q1
    | true => exact Post.pure xE q1 s1 true rfl)
theorem jb_not (ha : JB Z Er O tt mb) : JB Z Er O (tNot tt) (bNot mb) := fun σ H p ρ S Q hE hS q =>
  ha σ H p ρ S _ hE hS ((q.bnd xE).mono fun d S1 H1 p1 e1 s1 q1 v hv => by
    subst hv
    exact Post.pure xE q1 s1 _ rfl)
def bYes (_ : Env) : M Bool := pure true
theorem jb_yes : JB Z Er O tYes bYes := fun σ H p ρ S Q hE hS q => q.pure xE hS true rfl
def xAnd (a b : Env → M Dat) (ρ : Env) : M Dat := bTest a ρ >>= fun x => if x = true then b ρ else pure (.bl false)
def xOr (a b : Env → M Dat) (ρ : Env) : M Dat := bTest a ρ >>= fun x => if x = true then pure (.bl true) else b ρ
def xNot (a : Env → M Dat) (ρ : Env) : M Dat := bTest a ρ >>= fun x => pure (.bl (!x))
theorem j_andV (ha : JD Z Er O ta m1) (hb : JD Z Er O tb m2) : JD Z Er O (tAndV ta tb) (xAnd m1 m2) := fun σ H p ρ S Q hE hS q =>
  jb_test ha σ H p ρ S (fun b H1 => if b = true then tb σ H1 Q else Q (.bl false) H1) hE hS ((q.bnd xE).mono fun d S1 H1 p1 e1 s1 q1 v hv => by
    subst hv
    cases v with
    | true => exact hb σ H1 p1 ρ S1 Q (hE.ext e1 hS) s1 q1
    | false => exact Post.pure xE q1 s1 _ (isD_bl.mpr rfl))
theorem j_orV (ha : JD Z Er O ta m1) (hb : JD Z Er O tb m2) : JD Z Er O (tOrV ta tb) (xOr m1 m2) := fun σ H p ρ S Q hE hS q =>
  jb_test ha σ H p ρ S (fun b H1 => if b = true then Q (.bl true) H1 else tb σ H1 Q) hE hS ((q.bnd xE).mono fun d S1 H1 p1 e1 s1 q1 v hv => by
    subst hv
    cases v with
    | false => exact hb σ H1 p1 ρ S1 Q (hE.ext e1 hS) s1 q1
    | true => exact Post.pure xE q1 s1 _ (isD_bl.mpr rfl))
theorem j_notV (ha : JD Z Er O ta m1) : JD Z Er O (tNotV ta) (xNot m1) := fun σ H p ρ S Q hE hS q =>
  jb_test ha σ H p ρ S (fun b H1 => Q (.bl (!b)) H1) hE hS ((q.bnd xE).mono fun d S1 H1 p1 e1 s1 q1 v hv => by
    subst hv
    exact Post.pure xE q1 s1 _ (isD_bl.mpr rfl))
def xIf (c : Env → M Bool) (a b : Env → M Dat) (ρ : Env) : M Dat := c ρ >>= fun x => if x = true then a ρ else b ρ
theorem j_if (hc : JB Z Er O tt mb) (ha : J Z Er O A3 ta m1) (hb : J Z Er O A3 tb m2) : J Z Er O A3 (tIf tt ta tb) (xIf mb m1 m2) := fun σ H p ρ S Q hE hS q =>
  hc σ H p ρ S _ hE hS ((q.bnd xE).mono fun d S1 H1 p1 e1 s1 q1 v hv => by
    subst hv
    cases v with
    | true => exact ha σ H1 p1 ρ S1 Q (hE.ext e1 hS) s1 q1
    | false => exact hb σ H1 p1 ρ S1 Q (hE.ext e1 hS) s1 q1)
/-- a op b op c -/
def xChain (f g : Dat → Dat → M Dat) (a b c : Env → M Dat) (ρ : Env) : M Dat := a ρ >>= fun x => b ρ >>= fun y => (f x y >>= fun z => M.opt (dB z)) >>= fun k => if k = true then c ρ >>= fun u => g y u else pure (.bl false)
theorem j_chain {r r' : L2.R2} {f g : Dat → Dat → M Dat} (hr : JR Z (IsD Z) (IsD Z) (IsD Z) r f) (hr' : JR Z (IsD Z) (IsD Z) (IsD Z) r' g) (ha : JD Z Er O ta m1) (hb : JD Z Er O tb m2) (hc : JD Z Er O tc m3) : JD Z Er O (tChain r r' ta tb tc) (xChain f g m1 m2 m3) := fun σ H p ρ S Q hE hS q =>
  ha σ H p ρ S _ hE hS ((q.bnd xE).mono fun d S1 H1 p1 e1 s1 q1 v hv => hb σ H1 p1 ρ S1 _ (hE.ext e1 hS) s1 ((q1.bnd xE).mono fun e S2 H2 p2 e2 s2 q2 w hw =>
    hr v w d e Er H2 p2 S2 _ (hv.ext e2.s) hw s2 (((q2.bnd xE).bnd xE).mono fun z S3 H3 p3 e3 s3 q3 zv hz => by
      obtain ⟨b, e, k⟩ := opt_pure xE q3 s3
      rw [dB_some e] at hz
      refine ⟨b, isD_bl.mp hz, ?_⟩
      cases b with
      | true =>
        have k : Post Z Er ExtE ((m3 ρ >>= fun u => g _ u) S3) H3 p3 _ := k
        exact hc σ H3 p3 ρ S3 _ (((hE.ext e1 hS).ext e2 s1).ext e3 s2) s3 ((k.bnd xE).mono fun u S4 H4 p4 e4 s4 q4 uv hu => hr' w uv _ _ Er H4 p4 S4 _ (hw.ext (e3.trans e4).s) hu s4 q4)
      | false => exact Post.pure xE k s3 _ (isD_bl.mpr rfl))))
/-! arguments, tuples, lists -/
def xNil (_ : Env) : M (List Dat) := pure []
def xCons (a : Env → M Dat) (l : Env → M (List Dat)) (ρ : Env) : M (List Dat) := a ρ >>= fun x => l ρ >>= fun xs => pure (x :: xs)
variable {tl : TA} {ml : Env → M (List Dat)}
theorem ja_nil : JA Z Er O tNil xNil := fun σ H p ρ S Q hE hS q => q.pure xE hS [] (isDs_nil.mpr rfl)
theorem ja_cons (ha : JD Z Er O ta m1) (hl : JA Z Er O tl ml) : JA Z Er O (tCons ta tl) (xCons m1 ml) := fun σ H p ρ S Q hE hS q =>
  ha σ H p ρ S _ hE hS ((q.bnd xE).mono fun d S1 H1 p1 e1 s1 q1 v hv => hl σ H1 p1 ρ S1 _ (hE.ext e1 hS) s1 ((q1.bnd xE).mono fun ds S2 H2 p2 e2 s2 q2 vs hvs => q2.pure xE s2 (v :: vs) (isDs_cons.mpr ⟨v, vs, rfl, hv.ext e2.s, hvs⟩)))
/-- the first one a container that may be the frame's own -/
def IsWs (Z : Cz) (H : Hp) (p : Pl) (vs : List V) : List Dat → Prop
  | [] => vs = []
  | d :: ds => ∃ v r, vs = v :: r ∧ IsW Z H p v d ∧ IsDs Z H p r ds
theorem ja_consW (ha : JW Z Er O ta m1) (hl : JA Z Er O tl ml) : J Z Er O (IsWs Z) (tCons ta tl) (xCons m1 ml) := fun σ H p ρ S Q hE hS q =>
  ha σ H p ρ S _ hE hS ((q.bnd xE).mono fun d S1 H1 p1 e1 s1 q1 v hv => hl σ H1 p1 ρ S1 _ (hE.ext e1 hS) s1 ((q1.bnd xE).mono fun ds S2 H2 p2 e2 s2 q2 vs hvs => q2.pure xE s2 (v :: vs) ⟨v, vs, rfl, upW.up e2 s1 hv, hvs⟩))
theorem no_has {H : Hp} {p : Pl} {S : List Dat} (s : IsS Z H p S) {a : Addr} (h : H a = none) : ¬ p.has a := fun q => s.tracked q h
theorem new_tup {H : Hp} {p : Pl} {S : List Dat} (s : IsS Z H p S) {a : Addr} {vs : List V} {ds : List Dat} (na : H a = none) (h : IsDs Z H p vs ds) : IsD Z (upd H a (.tup vs)) p (.ref a) (.tup ds) :=
  isD_tup.mpr ⟨a, vs, rfl, .inl ⟨.inl upd_same, no_has s na⟩, h.ext (ExtE.new na).s⟩
theorem new_lst {H : Hp} {p : Pl} {S : List Dat} (s : IsS Z H p S) {a : Addr} {vs : List V} {ds : List Dat} (na : H a = none) (h : IsDs Z H p vs ds) : IsD Z (upd H a (.lst vs)) p (.ref a) (.lst ds) :=
  isD_lst.mpr ⟨a, vs, rfl, ⟨upd_same, no_has s na⟩, h.ext (ExtE.new na).s⟩
/-- a step of the heap that lays one new object -/
theorem Post.at_new {α : Type} {a : α} {H : Hp} {p : Pl} {S : List Dat} {C : α → List Dat → Hp → Pl → Prop} (q : Post Z Er ExtE ((Pure.pure a : M α) S) H p C) (s : IsS Z H p S) {x : Addr} {o : HO} (nx : H x = none) : C a S (upd H x o) p :=
  q _ _ (ExtE.new nx) (s.ext (same_new nx))
def xTup (l : Env → M (List Dat)) (ρ : Env) : M Dat := l ρ >>= fun ds => M.need (decide (ds.length ≤ 1000)) >>= fun _ => pure (.tup ds)
def xLst (l : Env → M (List Dat)) (ρ : Env) : M Dat := l ρ >>= fun ds => M.need (decide (ds.length ≤ 1000)) >>= fun _ => pure (.lst ds)
theorem few {n : Nat} (h : n ≤ 1000) : n ≤ sizeLine := Nat.le_of_lt (small1000 h)
theorem j_tup (hl : JA Z Er O tl ml) : JD Z Er O (tTup tl) (xTup ml) := fun σ H p ρ S Q hE hS q =>
  hl σ H p ρ S _ hE hS ((q.bnd xE).mono fun ds S1 H1 p1 e1 s1 q1 vs hv => by
    obtain ⟨c, q2⟩ := q1.need
    exact ⟨few (by rw [hv.len]; exact of_decide_eq_true c), fun a na => q2.at_new s1 na _ (new_tup s1 na hv)⟩)
theorem j_lst (hl : JA Z Er O tl ml) : JD Z Er O (tLst tl) (xLst ml) := fun σ H p ρ S Q hE hS q =>
  hl σ H p ρ S _ hE hS ((q.bnd xE).mono fun ds S1 H1 p1 e1 s1 q1 vs hv => by
    obtain ⟨c, q2⟩ := q1.need
    exact ⟨few (by rw [hv.len]; exact of_decide_eq_true c), fun a na => q2.at_new s1 na _ (new_lst s1 na hv)⟩)
def xCB (f : List Dat → M Dat) (l : Env → M (List Dat)) (ρ : Env) : M Dat := l ρ >>= f
theorem j_cb {rc : List V → Hp → VK → Prop} {f : List Dat → M Dat} {RA : Hp → Pl → List V → List Dat → Prop} (hr : JC Z RA A3 rc f) (hl : J Z Er O RA tl ml) : J Z Er O A3 (tCB rc tl) (xCB f ml) := fun σ H p ρ S Q hE hS q =>
  hl σ H p ρ S _ hE hS ((q.bnd xE).mono fun ds S1 H1 p1 e1 s1 q1 vs hv => hr vs ds Er H1 p1 S1 _ hv s1 q1)
end
end Zd

namespace Zd
open PySem PySem.Spec PyProof.Rows L2

/-! ### targets -/
def JG (Z : Cz) (O : List Nat) (g : TG) (m : Env → Dat → Option Env) (vs : Option (List Nat)) : Prop :=
  ∀ (v : V) (σ : L2.St) (H : Hp) (p : Pl) (ρ : Env) (d : Dat) (R : L2.St → Hp → Prop), IsE Z O H p σ ρ → IsD Z H p v d → (∃ ρ', m ρ d = some ρ' ∧ ∀ σ', IsE Z O H p σ' ρ' → (∀ w, vs = some w → L2.wipe σ' w = L2.wipe σ w) → R σ' H) → g v σ H R
def JGs (Z : Cz) (O : List Nat) (g : TGs) (m : Env → List Dat → Option Env) (vs : Option (List Nat)) : Prop :=
  ∀ (v : List V) (σ : L2.St) (H : Hp) (p : Pl) (ρ : Env) (d : List Dat) (R : L2.St → Hp → Prop), IsE Z O H p σ ρ → IsDs Z H p v d → (∃ ρ', m ρ d = some ρ' ∧ ∀ σ', IsE Z O H p σ' ρ' → (∀ w, vs = some w → L2.wipe σ' w = L2.wipe σ w) → R σ' H) → g v σ H R
theorem IsE.set {Z : Cz} {O : List Nat} {H : Hp} {p : Pl} {σ : L2.St} {ρ : Env} (h : IsE Z O H p σ ρ) {i : Nat} {v : V} {d : Dat} (n : i ∉ O) (hv : IsD Z H p v d) : IsE Z O H p (σ.set i (some v)) (ρ.set i (some d)) := by
  refine ⟨by rw [List.length_set, List.length_set]; exact h.len, fun j e nj q => ?_, fun j e oj q => ?_, fun j k a oj ok ne hj hk q => ?_⟩
  · by_cases c : i = j
    · subst c
      rw [List.getElem?_set_self' ] at q ⊢
      cases z : ρ[i]? with
      | none => rw [z] at q; cases q
      | some w =>
        rw [z] at q
        cases q
        have lt := (List.getElem?_eq_some_iff.mp z).1
        rw [List.getElem?_eq_getElem (by rw [h.len]; exact lt)]
        exact ⟨v, rfl, hv⟩
    · rw [List.getElem?_set_ne c] at q ⊢
      exact h.get j e nj q
  · have c : i ≠ j := fun z => n (z ▸ oj)
    rw [List.getElem?_set_ne c] at q ⊢
    exact h.own j e oj q
  · have c1 : i ≠ j := fun z => n (z ▸ oj)
    have c2 : i ≠ k := fun z => n (z ▸ ok)
    rw [List.getElem?_set_ne c1] at hj q
    rw [List.getElem?_set_ne c2] at hk ⊢
    exact h.dj j k a oj ok ne hj hk q
theorem IsE.unset {Z : Cz} {O : List Nat} {H : Hp} {p : Pl} {σ : L2.St} {ρ : Env} (h : IsE Z O H p σ ρ) {i : Nat} : IsE Z O H p (σ.set i none) (ρ.set i none) := by
  have step : ∀ (j : Nat) (e : Dat), (ρ.set i none)[j]? = some (some e) → i ≠ j ∧ ρ[j]? = some (some e) := fun j e q => by
    by_cases c : i = j
    · subst c
      rw [List.getElem?_set_self'] at q
      cases z : ρ[i]? with
      | none => rw [z] at q; cases q
      | some w => rw [z] at q; cases q
    · rw [List.getElem?_set_ne c] at q
      exact ⟨c, q⟩
  refine ⟨by rw [List.length_set, List.length_set]; exact h.len, fun j e nj q => ?_, fun j e oj q => ?_, fun j k a oj ok ne hj hk q => ?_⟩
  · obtain ⟨c, z⟩ := step j e q
    rw [List.getElem?_set_ne c]
    exact h.get j e nj z
  · obtain ⟨c, z⟩ := step j e q
    rw [List.getElem?_set_ne c]
    exact h.own j e oj z
  · obtain ⟨d1, hj⟩ := hj
    obtain ⟨d2, hk⟩ := hk
    obtain ⟨c1, z1⟩ := step j d1 hj
    obtain ⟨c2, z2⟩ := step k d2 hk
    rw [List.getElem?_set_ne c1] at q
    rw [List.getElem?_set_ne c2]
    exact h.dj j k a oj ok ne ⟨d1, z1⟩ ⟨d2, z2⟩ q
def wipeE (ρ : Env) : List Nat → Env
  | [] => ρ
  | v :: vs => (wipeE ρ vs).set v none
theorem IsE.wipe {Z : Cz} {O : List Nat} {H : Hp} {p : Pl} {σ : L2.St} {ρ : Env} (h : IsE Z O H p σ ρ) : ∀ vs : List Nat, IsE Z O H p (L2.wipe σ vs) (wipeE ρ vs)
  | [] => h
  | v :: vs => (IsE.wipe h vs).unset
theorem wipe_set {i : Nat} {x : Option V} : ∀ {vs : List Nat} {σ : L2.St}, i ∈ vs → L2.wipe (σ.set i x) vs = L2.wipe σ vs
  | [], _, h => by cases h
  | v :: vs, σ, h => by
    by_cases c : i ∈ vs
    · unfold L2.wipe
      rw [wipe_set c]
    · have e : i = v := (List.mem_cons.mp h).resolve_right c
      subst e
      have comm : ∀ (ws : List Nat), i ∉ ws → L2.wipe (σ.set i x) ws = (L2.wipe σ ws).set i x := fun ws => by
        induction ws with
        | nil => intro _; rfl
        | cons w ws ih =>
          intro n
          unfold L2.wipe
          rw [ih fun z => n (List.mem_cons_of_mem _ z), List.set_comm _ _ fun z => n (by rw [z]; exact List.mem_cons_self)]
      unfold L2.wipe
      rw [comm vs c, List.set_set]
theorem wipe_put {σ : L2.St} : ∀ {vs : List Nat} {i : Nat}, i ∈ vs → (L2.wipe σ vs).set i none = L2.wipe σ vs
  | [], _, h => by cases h
  | v :: vs, i, h => by
    unfold L2.wipe
    by_cases c : v = i
    · subst c
      rw [List.set_set]
    · rw [List.set_comm _ _ c, wipe_put ((List.mem_cons.mp h).resolve_left fun z => c z.symm)]
theorem wipe_sub {σ : L2.St} {vs : List Nat} : ∀ ws : List Nat, (∀ w ∈ ws, w ∈ vs) → L2.wipe (L2.wipe σ vs) ws = L2.wipe σ vs
  | [], _ => rfl
  | w :: ws, h => by
    show (L2.wipe (L2.wipe σ vs) ws).set w none = L2.wipe σ vs
    rw [wipe_sub ws fun x m => h x (List.mem_cons_of_mem _ m), wipe_put (h w List.mem_cons_self)]
theorem wipe_wipe (σ : L2.St) (vs : List Nat) : L2.wipe (L2.wipe σ vs) vs = L2.wipe σ vs := wipe_sub vs fun _ h => h
def gN (i : Nat) (ρ : Env) (d : Dat) : Option Env := some (ρ.set i (some d))
def gT (n : Nat) (t : Env → List Dat → Option Env) (ρ : Env) (d : Dat) : Option Env := match d with
  | .tup ds => if ds.length = n then t ρ ds else none
  | _ => none
def gNl (ρ : Env) (ds : List Dat) : Option Env := match ds with
  | [] => some ρ
  | _ => none
def gCo (t : Env → Dat → Option Env) (u : Env → List Dat → Option Env) (ρ : Env) (ds : List Dat) : Option Env := match ds with
  | d :: r => (t ρ d).bind fun ρ' => u ρ' r
  | [] => none
section
variable {Z : Cz} {Er : ErW} {O : List Nat} {vs : Option (List Nat)} {te ta tb tc : TE} {tt tu : TT} {m m1 m2 m3 : Env → M Dat} {mb mc : Env → M Bool} {tl : TA} {ml : Env → M (List Dat)}
theorem jg_name {i : Nat} (n : i ∉ O) (hi : ∀ w, vs = some w → i ∈ w) : JG Z O (gName i) (gN i) vs := fun v σ H p ρ d R hE hv h => by
  obtain ⟨ρ', e, k⟩ := h
  cases e
  exact k _ (hE.set n hv) fun w e => wipe_set (hi w e)
theorem jg_nil : JGs Z O gNil gNl vs := fun v σ H p ρ d R hE hv h => by
  obtain ⟨ρ', e, k⟩ := h
  cases d with
  | nil =>
    cases e
    exact ⟨isDs_nil.mp hv, k _ hE fun _ _ => rfl⟩
  | cons _ _ => cases e
theorem jg_cons {t : TG} {u : TGs} {a : Env → Dat → Option Env} {b : Env → List Dat → Option Env} (h1 : JG Z O t a vs) (h2 : JGs Z O u b vs) : JGs Z O (gCons t u) (gCo a b) vs := fun v σ H p ρ d R hE hv h => by
  obtain ⟨ρ', e, k⟩ := h
  cases d with
  | nil => cases e
  | cons d r =>
    obtain ⟨x, xs, rfl, hx, hxs⟩ := isDs_cons.mp hv
    have e : (a ρ d).bind (fun ρ' => b ρ' r) = some ρ' := e
    cases q : a ρ d with
    | none => rw [q] at e; cases e
    | some ρ1 =>
      rw [q] at e
      exact ⟨x, xs, rfl, h1 x σ H p ρ d _ hE hx ⟨ρ1, q, fun σ1 hE1 w1 => h2 xs σ1 H p ρ1 r _ hE1 hxs ⟨ρ', e, fun σ2 hE2 w2 => k σ2 hE2 fun w ew => (w2 w ew).trans (w1 w ew)⟩⟩⟩
theorem jg_tup {n : Nat} {t : TGs} {u : Env → List Dat → Option Env} (h1 : JGs Z O t u vs) : JG Z O (gTup Z.K n t) (gT n u) vs := fun v σ H p ρ d R hE hv h => by
  obtain ⟨ρ', e, k⟩ := h
  cases d with
  | tup ds =>
    obtain ⟨a, xs, rfl, ha, hx⟩ := isD_tup.mp hv
    have e : (if ds.length = n then u ρ ds else none) = some ρ' := e
    by_cases c : ds.length = n
    · rw [if_pos c] at e
      exact ⟨a, xs, rfl, ha.sq, hx.len.trans c, h1 xs σ H p ρ ds R hE hx ⟨ρ', e, k⟩⟩
    · rw [if_neg c] at e
      cases e
  | _ => cases e

/-! ### statements -/
def FlowOk (Z : Cz) (O : List Nat) (D : Ends) (f : Flow) (H : Hp) (p : Pl) : Prop := match f with
  | .nx ρ => ∀ σ, IsE Z O H p σ ρ → D.nx σ H
  | .rt d => ∀ v, IsW Z H p v d → D.rt v H
  | .bk ρ => ∀ σ, IsE Z O H p σ ρ → D.bk σ H
  | .ct ρ => ∀ σ, IsE Z O H p σ ρ → D.ct σ H
def JS (Z : Cz) (Er : ErW) (O : List Nat) (ts : TS) (m : Env → M Flow) : Prop :=
  ∀ (σ : L2.St) (H : Hp) (p : Pl) (ρ : Env) (S : List Dat) (D : Ends), IsE Z O H p σ ρ → IsS Z H p S → Post Z Er Ext (m ρ S) H p (fun f _ H' p' => FlowOk Z O D f H' p') → ts D σ H
/-- behind an expression -/
theorem Post.bndE {α β : Type} {S : List Dat} {H : Hp} {p : Pl} {m : M α} {f : α → M β} {C : β → List Dat → Hp → Pl → Prop} (h : Post Z Er Ext ((m >>= f) S) H p C) : Post Z Er ExtE (m S) H p fun a S' H' p' => Post Z Er Ext (f a S') H' p' C := (h.bnd xS).of xS
def sNx (ρ : Env) : M Flow := pure (.nx ρ)
def sSeq (a b : Env → M Flow) (ρ : Env) : M Flow := a ρ >>= fun f => match f with
  | .nx ρ' => b ρ'
  | g => pure g
variable {ts tr : TS} {ms mr : Env → M Flow}
theorem js_next : JS Z Er O tNext sNx := fun σ H p ρ S D hE hS q => q.pure xS hS σ hE
theorem js_seq (h1 : JS Z Er O ts ms) (h2 : JS Z Er O tr mr) : JS Z Er O (tSeq ts tr) (sSeq ms mr) := fun σ H p ρ S D hE hS q =>
  h1 σ H p ρ S _ hE hS ((q.bnd xS).mono fun f S1 H1 p1 e1 s1 q1 => by
    cases f with
    | nx ρ1 => exact fun σ1 hE1 => h2 σ1 H1 p1 ρ1 S1 D hE1 s1 q1
    | rt d => exact Post.pure xS q1 s1
    | bk ρ1 => exact Post.pure xS q1 s1
    | ct ρ1 => exact Post.pure xS q1 s1)
def sAsg (a : Env → M Dat) (g : Env → Dat → Option Env) (ρ : Env) : M Flow := a ρ >>= fun d => M.opt (g ρ d) >>= fun ρ' => pure (.nx ρ')
theorem js_asg {g : TG} {gm : Env → Dat → Option Env} (ha : JD Z Er O ta m1) (hg : JG Z O g gm none) : JS Z Er O (tAsg ta g) (sAsg m1 gm) := fun σ H p ρ S D hE hS q =>
  ha σ H p ρ S _ hE hS (q.bndE.mono fun d S1 H1 p1 e1 s1 q1 v hv => by
    obtain ⟨ρ1, e, q2⟩ := q1.opt
    exact hg v σ H1 p1 ρ d _ (hE.ext e1 hS) hv ⟨ρ1, e, fun σ' hE' _ => q2.pure xS s1 σ' hE'⟩)
def sRet (a : Env → M Dat) (ρ : Env) : M Flow := a ρ >>= fun d => pure (.rt d)
theorem js_ret (ha : JW Z Er O ta m1) : JS Z Er O (tRet ta) (sRet m1) := fun σ H p ρ S D hE hS q =>
  ha σ H p ρ S _ hE hS (q.bndE.mono fun d S1 H1 p1 e1 s1 q1 v hv => q1.pure xS s1 v hv)
def sRetN (ρ : Env) : M Flow := pure (.rt .non)
theorem js_retN : JS Z Er O tRetN sRetN := fun σ H p ρ S D hE hS q => q.pure xS hS .non ((isD_non (Z := Z) (H := H) (p := p)).mpr rfl)
def sDrop (a : Env → M Dat) (ρ : Env) : M Flow := a ρ >>= fun _ => pure (.nx ρ)
theorem js_drop (ha : JD Z Er O ta m1) : JS Z Er O (tDrop ta) (sDrop m1) := fun σ H p ρ S D hE hS q =>
  ha σ H p ρ S _ hE hS (q.bndE.mono fun d S1 H1 p1 e1 s1 q1 v hv => q1.pure xS s1 σ (hE.ext e1 hS))
def sIf (c : Env → M Bool) (a b : Env → M Flow) (ρ : Env) : M Flow := c ρ >>= fun x => if x = true then a ρ else b ρ
theorem js_if (hc : JB Z Er O tt mb) (h1 : JS Z Er O ts ms) (h2 : JS Z Er O tr mr) : JS Z Er O (tIfS tt ts tr) (sIf mb ms mr) := fun σ H p ρ S D hE hS q =>
  hc σ H p ρ S _ hE hS (q.bndE.mono fun b S1 H1 p1 e1 s1 q1 c hc => by
    subst hc
    cases c with
    | true => exact h1 σ H1 p1 ρ S1 D (hE.ext e1 hS) s1 q1
    | false => exact h2 σ H1 p1 ρ S1 D (hE.ext e1 hS) s1 q1)
def sNo (_ : Env) : M Flow := M.no
theorem js_never : JS Z Er O tNever sNo := fun σ H p ρ S D hE hS q => (show False from q)
def sPar (i j : Nat) (l : Env → M (List Dat)) (ρ : Env) : M Flow := l ρ >>= fun ds => match ds with
  | [a, b] => pure (.nx ((ρ.set i (some a)).set j (some b)))
  | _ => M.no
theorem js_par {i j : Nat} (ni : i ∉ O) (nj : j ∉ O) (hl : JA Z Er O tl ml) : JS Z Er O (tPar i j tl) (sPar i j ml) := fun σ H p ρ S D hE hS q =>
  hl σ H p ρ S _ hE hS (q.bndE.mono fun ds S1 H1 p1 e1 s1 q1 vs hv => by
    match ds, hv, q1 with
    | [a, b], hv, q1 =>
      obtain ⟨x, r, rfl, hx, hr⟩ := isDs_cons.mp hv
      obtain ⟨y, r2, rfl, hy, hr2⟩ := isDs_cons.mp hr
      rw [isDs_nil.mp hr2]
      exact ⟨x, y, rfl, q1.pure xS s1 _ (((hE.ext e1 hS).set ni hx).set nj hy)⟩
    | [], _, q1 => exact (show False from q1).elim
    | [_], _, q1 => exact (show False from q1).elim
    | _ :: _ :: _ :: _, _, q1 => exact (show False from q1).elim)
def sPar3 (i j k : Nat) (l : Env → M (List Dat)) (ρ : Env) : M Flow := l ρ >>= fun ds => match ds with
  | [a, b, c] => pure (.nx (((ρ.set i (some a)).set j (some b)).set k (some c)))
  | _ => M.no
theorem js_par3 {i j k : Nat} (ni : i ∉ O) (nj : j ∉ O) (nk : k ∉ O) (hl : JA Z Er O tl ml) : JS Z Er O (tPar3 i j k tl) (sPar3 i j k ml) := fun σ H p ρ S D hE hS q =>
  hl σ H p ρ S _ hE hS (q.bndE.mono fun ds S1 H1 p1 e1 s1 q1 vs hv => by
    match ds, hv, q1 with
    | [a, b, c], hv, q1 =>
      obtain ⟨x, r, rfl, hx, hr⟩ := isDs_cons.mp hv
      obtain ⟨y, r2, rfl, hy, hr2⟩ := isDs_cons.mp hr
      obtain ⟨z, r3, rfl, hz, hr3⟩ := isDs_cons.mp hr2
      rw [isDs_nil.mp hr3]
      exact ⟨x, y, z, rfl, q1.pure xS s1 _ ((((hE.ext e1 hS).set ni hx).set nj hy).set nk hz)⟩
    | [], _, q1 => exact (show False from q1).elim
    | [_], _, q1 => exact (show False from q1).elim
    | [_, _], _, q1 => exact (show False from q1).elim
    | _ :: _ :: _ :: _ :: _, _, q1 => exact (show False from q1).elim)

/-! ### what is walked -/
/-- from (H0, p0) on, along X, the walk J gives the items ds, one after another -/
def Walks (Z : Cz) (X : XR) (Jt : It) (ds : List Dat) (H0 : Hp) (p0 : Pl) : Prop := ∀ H p S (i : Nat), X H0 p0 H p → IsS Z H p S →
  (i < ds.length → Jt.go i H ∧ ∀ x H', Jt.yld i H x H' → Same H H' ∧ ∃ d, ds[i]? = some d ∧ IsD Z H' p x d) ∧ (ds.length = i → Jt.stop i H)
def JI (Z : Cz) (Er : ErW) (O : List Nat) (X : XR) (wi : TI) (m : Env → M (List Dat)) : Prop :=
  ∀ (σ : L2.St) (H : Hp) (p : Pl) (ρ : Env) (S : List Dat) (R : It → Hp → Prop), IsE Z O H p σ ρ → IsS Z H p S → Post Z Er ExtE (m ρ S) H p (fun ds _ H' p' => ∀ Jt, Walks Z X Jt ds H' p' → R Jt H') → wi σ H R
def dLst : Dat → Option (List Dat)
  | .lst ds => some ds
  | _ => none
def dTup : Dat → Option (List Dat)
  | .tup ds => some ds
  | _ => none
theorem dLst_some {d : Dat} {ds : List Dat} (h : dLst d = some ds) : d = .lst ds := by
  cases d <;> first | (cases h; rfl) | cases h
theorem dTup_some {d : Dat} {ds : List Dat} (h : dTup d = some ds) : d = .tup ds := by
  cases d <;> first | (cases h; rfl) | cases h
def iLst (a : Env → M Dat) (ρ : Env) : M (List Dat) := a ρ >>= fun d => M.opt (dLst d)
def iTp (a : Env → M Dat) (ρ : Env) : M (List Dat) := a ρ >>= fun d => M.opt (dTup d)
theorem walks_list {X : XR} (x : XOk X) {H : Hp} {p : Pl} {a : Addr} {xs : List V} {ds : List Dat} (h : LstAt Z H p a xs) (hd : IsDs Z H p xs ds) : Walks Z X (Itl Z.K a) ds H p := fun H1 p1 S1 i e s => by
  have h1 := (h.ext (x.s e)).sq
  have hd1 := hd.ext (x.s e)
  refine ⟨fun lt => ?_, fun le => ⟨xs, h1, by rw [hd.len]; exact Nat.le_of_eq le⟩⟩
  have hi := List.getElem?_eq_getElem lt
  obtain ⟨v, g1, g2⟩ := hd1.get hi
  refine ⟨⟨xs, v, h1, g1⟩, fun y H' ⟨eq, k⟩ => ?_⟩
  subst eq
  have := k xs h1
  rw [g1] at this
  cases this
  exact ⟨Same.refl _, _, hi, g2⟩
theorem walks_tup {X : XR} (x : XOk X) {H : Hp} {p : Pl} {a : Addr} {xs : List V} {ds : List Dat} (h : TupAt Z H p a xs) (hd : IsDs Z H p xs ds) : Walks Z X (Itt Z.K a) ds H p := fun H1 p1 S1 i e s => by
  have h1 := (h.ext (x.s e)).sq
  have hd1 := hd.ext (x.s e)
  refine ⟨fun lt => ?_, fun le => ⟨xs, h1, by rw [hd.len]; exact Nat.le_of_eq le⟩⟩
  have hi := List.getElem?_eq_getElem lt
  obtain ⟨v, g1, g2⟩ := hd1.get hi
  refine ⟨⟨xs, v, h1, g1⟩, fun y H' ⟨eq, k⟩ => ?_⟩
  subst eq
  have := k xs h1
  rw [g1] at this
  cases this
  exact ⟨Same.refl _, _, hi, g2⟩
theorem ji_list {X : XR} (x : XOk X) (ha : JD Z Er O ta m1) : JI Z Er O X (iList Z.K ta) (iLst m1) := fun σ H p ρ S R hE hS q =>
  ha σ H p ρ S _ hE hS ((q.bnd xE).mono fun d S1 H1 p1 e1 s1 q1 v hv => by
    obtain ⟨ds, e, k⟩ := opt_pure xE q1 s1
    rw [dLst_some e] at hv
    obtain ⟨a, xs, rfl, h1, h2⟩ := isD_lst.mp hv
    exact ⟨a, rfl, ⟨xs, h1.sq⟩, k _ (walks_list x h1 h2)⟩)
theorem ji_tup {X : XR} (x : XOk X) (ha : JD Z Er O ta m1) : JI Z Er O X (iTup Z.K ta) (iTp m1) := fun σ H p ρ S R hE hS q =>
  ha σ H p ρ S _ hE hS ((q.bnd xE).mono fun d S1 H1 p1 e1 s1 q1 v hv => by
    obtain ⟨ds, e, k⟩ := opt_pure xE q1 s1
    rw [dTup_some e] at hv
    obtain ⟨a, xs, rfl, h1, h2⟩ := isD_tup.mp hv
    exact ⟨a, rfl, ⟨xs, h1.sq⟩, k _ (walks_tup x h1 h2)⟩)
/-- lo, lo + 1, .. -/
def intsD (lo : Int) (n : Nat) : List Dat := (List.range n).map fun (k : Nat) => Dat.int (lo + k)
theorem walks_rng {X : XR} {H : Hp} {p : Pl} {lo : Int} {n : Nat} : Walks Z X (Itr lo n) (intsD lo n) H p := fun H1 p1 S1 i e s => by
  unfold intsD
  rw [List.length_map, List.length_range]
  refine ⟨fun lt => ⟨lt, fun y H' ⟨eq, k⟩ => ?_⟩, fun le => Nat.le_of_eq le⟩
  subst eq k
  refine ⟨Same.refl _, _, ?_, isD_int.mpr rfl⟩
  rw [List.getElem?_map, List.getElem?_range lt]
  rfl
def iRg (l : Env → M (List Dat)) (ρ : Env) : M (List Dat) := l ρ >>= fun ds => match ds with
  | [.int j] => M.need (decide (-(2 ^ 62) ≤ j ∧ j < 2 ^ 62)) >>= fun _ => pure (intsD 0 j.toNat)
  | [.int i, .int j] => M.need (decide (-(2 ^ 62) ≤ i ∧ i < 2 ^ 62 ∧ -(2 ^ 62) ≤ j ∧ j < 2 ^ 62)) >>= fun _ => pure (intsD i (j - i).toNat)
  | _ => M.no
theorem ji_rng1 {X : XR} (hl : JA Z Er O tl ml) : JI Z Er O X (iRng1 tl) (fun ρ => ml ρ >>= fun ds => match ds with
    | [.int j] => M.need (decide (-(2 ^ 62) ≤ j ∧ j < 2 ^ 62)) >>= fun _ => pure (intsD 0 j.toNat)
    | _ => M.no) := fun σ H p ρ S R hE hS q =>
  hl σ H p ρ S _ hE hS ((q.bnd xE).mono fun ds S1 H1 p1 e1 s1 q1 vs hv => by
    split at q1
    · rename_i j
      obtain ⟨c, q2⟩ := q1.need
      obtain ⟨x, r, rfl, hx, hr⟩ := isDs_cons.mp hv
      rw [isDs_nil.mp hr, isD_int.mp hx]
      have c := of_decide_eq_true c
      exact ⟨j, rfl, c.1, c.2, q2.pure xE s1 _ walks_rng⟩
    · exact (show False from q1).elim)
theorem ji_rng2 {X : XR} (hl : JA Z Er O tl ml) : JI Z Er O X (iRng2 tl) (fun ρ => ml ρ >>= fun ds => match ds with
    | [.int i, .int j] => M.need (decide (-(2 ^ 62) ≤ i ∧ i < 2 ^ 62 ∧ -(2 ^ 62) ≤ j ∧ j < 2 ^ 62)) >>= fun _ => pure (intsD i (j - i).toNat)
    | _ => M.no) := fun σ H p ρ S R hE hS q =>
  hl σ H p ρ S _ hE hS ((q.bnd xE).mono fun ds S1 H1 p1 e1 s1 q1 vs hv => by
    split at q1
    · rename_i i j
      obtain ⟨c, q2⟩ := q1.need
      obtain ⟨x, r, rfl, hx, hr⟩ := isDs_cons.mp hv
      obtain ⟨y, r2, rfl, hy, hr2⟩ := isDs_cons.mp hr
      rw [isDs_nil.mp hr2, isD_int.mp hx, isD_int.mp hy]
      exact ⟨i, j, rfl, of_decide_eq_true c, q2.pure xE s1 _ walks_rng⟩
    · exact (show False from q1).elim)

/-! ### for -/
def forD (g : Env → Dat → Option Env) (b : Env → M Flow) : List Dat → Env → M Flow
  | [], ρ => pure (.nx ρ)
  | d :: ds, ρ => M.opt (g ρ d) >>= fun ρ1 => b ρ1 >>= fun f => match f with
    | .nx ρ2 => forD g b ds ρ2
    | .ct ρ2 => forD g b ds ρ2
    | .bk ρ2 => pure (.nx ρ2)
    | .rt d => pure (.rt d)
def sFor (it : Env → M (List Dat)) (g : Env → Dat → Option Env) (b : Env → M Flow) (ρ : Env) : M Flow := it ρ >>= fun ds => forD g b ds ρ
theorem drop_cons {α : Type} {l : List α} {i : Nat} (h : i < l.length) : l.drop i = l[i] :: l.drop (i + 1) := List.drop_eq_getElem_cons h
theorem js_for {wi : TI} {it : Env → M (List Dat)} {g : TG} {gm : Env → Dat → Option Env} (hi : JI Z Er O Ext wi it) (hg : JG Z O g gm none) (hb : JS Z Er O ts ms) : JS Z Er O (tFor wi g ts) (sFor it gm ms) := fun σ H p ρ S D hE hS q =>
  hi σ H p ρ S _ hE hS (q.bndE.mono fun ds S1 H1 p1 e1 s1 q1 Jt hJ => by
    refine ⟨fun i n σ' H' => n = ds.length - i ∧ i ≤ ds.length ∧ ∃ p' ρ' S', Ext H1 p1 H' p' ∧ IsE Z O H' p' σ' ρ' ∧ IsS Z H' p' S' ∧ Post Z Er Ext (forD gm ms (ds.drop i) ρ' S') H' p' (fun f _ H' p' => FlowOk Z O D f H' p'),
      ⟨_, rfl, Nat.zero_le _, p1, ρ, S1, Ext.refl, hE.ext e1 hS, s1, q1⟩, ?_⟩
    rintro i n σ' H' ⟨rfl, le, p', ρ', S', ex, hE', hS', q'⟩
    by_cases lt : i < ds.length
    · have W := (hJ H' p' S' i ex hS').1 lt
      refine .inr ⟨W.1, fun σ2 H2 => ∃ p2 ρ2 S2, Ext H1 p1 H2 p2 ∧ IsE Z O H2 p2 σ2 ρ2 ∧ IsS Z H2 p2 S2 ∧ Post Z Er Ext (forD gm ms (ds.drop (i + 1)) ρ2 S2) H2 p2 (fun f _ H' p' => FlowOk Z O D f H' p'),
        fun σ2 H2 ⟨p2, ρ2, S2, a, b, c, d⟩ => ⟨_, by omega, rfl, lt, p2, ρ2, S2, a, b, c, d⟩, fun x Hx y => ?_⟩
      obtain ⟨sm, d, ed, hd⟩ := W.2 x Hx y
      have ed' : ds[i] = d := by
        rw [List.getElem?_eq_getElem lt] at ed
        exact Option.some.inj ed
      rw [drop_cons lt, ed'] at q'
      have eN : ExtE H' p' Hx p' := ExtE.same sm
      have q2 : Post Z Er Ext (forD gm ms (d :: ds.drop (i + 1)) ρ' S') Hx p' (fun f _ H' p' => FlowOk Z O D f H' p') := by
        unfold Post at q' ⊢
        cases z : forD gm ms (d :: ds.drop (i + 1)) ρ' S' with
        | ok a S2 => rw [z] at q'; exact fun H3 p3 e3 s3 => q' H3 p3 (eN.s.trans e3) s3
        | er a b S2 => rw [z] at q'; exact fun H3 p3 e3 s3 => q' H3 p3 (eN.s.trans e3) s3
        | bad => rw [z] at q'; exact q'
      obtain ⟨ρ1, e, q3⟩ := q2.opt
      refine hg x σ' Hx p' ρ' d _ (hE'.ext eN hS') hd ⟨ρ1, e, fun σ1 hE1 _ => hb σ1 Hx p' ρ1 S' _ hE1 (hS'.ext sm) ((q3.bnd xS).mono fun f S2 H2 p2 e2 s2 q4 => ?_)⟩
      have exx := (ex.trans eN.s).trans e2
      cases f with
      | nx ρ2 => exact fun σ2 hE2 => ⟨p2, ρ2, S2, exx, hE2, s2, q4⟩
      | ct ρ2 => exact fun σ2 hE2 => ⟨p2, ρ2, S2, exx, hE2, s2, q4⟩
      | bk ρ2 => exact fun σ2 hE2 => Post.pure xS q4 s2 σ2 hE2
      | rt d2 => exact fun v hv => Post.pure xS q4 s2 v hv
    · have e : i = ds.length := by omega
      subst e
      rw [List.drop_length] at q'
      exact .inl ⟨(hJ H' p' S' _ ex hS').2 rfl, Post.pure xS q' hS' σ' hE'⟩)

/-! ### comprehensions -/
def compD (g : Env → Dat → Option Env) (c : Env → M Bool) (e : Env → M Dat) (ρ : Env) : List Dat → M (List Dat)
  | [] => pure []
  | d :: ds => M.opt (g ρ d) >>= fun ρ1 => c ρ1 >>= fun b => if b = true then e ρ1 >>= fun x => compD g c e ρ ds >>= fun xs => pure (x :: xs) else compD g c e ρ ds
def xLc (it : Env → M (List Dat)) (g : Env → Dat → Option Env) (c : Env → M Bool) (e : Env → M Dat) (vs : List Nat) (ρ : Env) : M Dat :=
  it ρ >>= fun ds => M.need (decide (ds.length ≤ 100000)) >>= fun _ => compD g c e (wipeE ρ vs) ds >>= fun es => pure (.lst es)
theorem Post.up {α : Type} {o : Out α} {H : Hp} {p : Pl} {C : α → List Dat → Hp → Pl → Prop} {X : XR} (x : XOk X) (q : Post Z Er X o H p C) {H' : Hp} {p' : Pl} (e : X H p H' p') : Post Z Er X o H' p' C := by
  unfold Post at q ⊢
  cases o with
  | ok a S2 => exact fun H3 p3 e3 s3 => q H3 p3 (x.trans e e3) s3
  | er a b S2 => exact fun H3 p3 e3 s3 => q H3 p3 (x.trans e e3) s3
  | bad => exact q
/-- as in an expression, but for new own places -/
structure ExtC (H : Hp) (p : Pl) (H' : Hp) (p' : Pl) : Prop where
  α : ∃ β, p'.α = p.α ++ β ∧ ∀ b ∈ β, H b = none
  ω : ∃ β, p'.ω = p.ω ++ β ∧ ∀ b ∈ β, H b = none
  γ : p'.γ = p.γ
  k : ∀ a o, H a = some o → a ∉ p.α → H' a = some o
  t : ∀ a, H a ≠ none → H' a ≠ none
theorem ExtC.s {H H' : Hp} {p p' : Pl} (e : ExtC H p H' p') : Ext H p H' p' := ⟨e.α, e.ω, e.γ, fun a o h n _ => e.k a o h n, e.t⟩
theorem ExtE.c {H H' : Hp} {p p' : Pl} (e : ExtE H p H' p') : ExtC H p H' p' := ⟨e.α, ⟨[], by rw [e.ω, List.append_nil], by simp⟩, e.γ, e.k, e.t⟩
theorem xCo : XOk ExtC := ⟨ExtE.refl.c, fun e f => ⟨fresh_app e.t e.α f.α, fresh_app e.t e.ω f.ω, f.γ.trans e.γ, fun a o h n => f.k a o (e.k a o h n) (not_fresh e.α h n), fun a h => f.t a (e.t a h)⟩, ExtE.c, ExtC.s⟩
mutual
theorem IsD.mv {H : Hp} {p p' : Pl} (e : ∀ (n : Nat) (x : Addr), p.α[n]? = some x → p'.α[n]? = some x) (l : ∀ a, p'.has a → p.has a) : ∀ (d : Dat) {v : V}, IsD Z H p v d → IsD Z H p' v d
  | .non, _, h => by unfold IsD at h ⊢; exact h
  | .bl b, _, h => by unfold IsD at h ⊢; exact h
  | .int i, _, h => by unfold IsD at h ⊢; exact h
  | .str x, _, h => by unfold IsD at h ⊢; exact h
  | .ty n, _, h => by unfold IsD at h ⊢; exact h
  | .cls c, _, h => by unfold IsD at h ⊢; exact h
  | .scr ns, _, h => by
    obtain ⟨a, rfl, h1⟩ := isD_scr.mp h
    exact isD_scr.mpr ⟨a, rfl, h1.imp (fun q => ⟨q.1, fun z => q.2 (l a z)⟩) id⟩
  | .tup ds, _, h => by
    obtain ⟨a, vs, rfl, h1, h2⟩ := isD_tup.mp h
    exact isD_tup.mpr ⟨a, vs, rfl, h1.imp (fun q => ⟨q.1, fun z => q.2 (l a z)⟩) id, IsDs.mv e l ds h2⟩
  | .lst ds, _, h => by
    obtain ⟨a, vs, rfl, h1, h2⟩ := isD_lst.mp h
    exact isD_lst.mpr ⟨a, vs, rfl, ⟨h1.1, fun z => h1.2 (l a z)⟩, IsDs.mv e l ds h2⟩
  | .dic ks ds, _, h => by
    obtain ⟨a, vs, rfl, h1, hl, h2⟩ := isD_dic.mp h
    exact isD_dic.mpr ⟨a, vs, rfl, ⟨h1.1, fun z => h1.2 (l a z)⟩, hl, IsDs.mv e l ds h2⟩
  | .obj c fs ds, _, h => by
    obtain ⟨a, vs, rfl, h1, hl, h2⟩ := isD_obj.mp h
    exact isD_obj.mpr ⟨a, vs, rfl, ⟨h1.1, fun z => h1.2 (l a z)⟩, hl, IsDs.mv e l ds h2⟩
  | .loc n, _, h => by
    obtain ⟨a, rfl, h1⟩ := isD_loc.mp h
    exact isD_loc.mpr ⟨a, rfl, e _ _ h1⟩
theorem IsDs.mv {H : Hp} {p p' : Pl} (e : ∀ (n : Nat) (x : Addr), p.α[n]? = some x → p'.α[n]? = some x) (l : ∀ a, p'.has a → p.has a) : ∀ (ds : List Dat) {vs : List V}, IsDs Z H p vs ds → IsDs Z H p' vs ds
  | [], _, h => isDs_nil.mpr (isDs_nil.mp h)
  | d :: ds, _, h => by
    obtain ⟨v, r, rfl, h1, h2⟩ := isDs_cons.mp h
    exact isDs_cons.mpr ⟨v, r, rfl, IsD.mv e l d h1, IsDs.mv e l ds h2⟩
end
theorem IsD.less {H : Hp} {p p' : Pl} (e : p'.α = p.α) (l : ∀ a, p'.has a → p.has a) (d : Dat) {v : V} (h : IsD Z H p v d) : IsD Z H p' v d := IsD.mv (fun _ _ q => by rw [e]; exact q) l d h
theorem IsDs.less {H : Hp} {p p' : Pl} (e : p'.α = p.α) (l : ∀ a, p'.has a → p.has a) (ds : List Dat) {vs : List V} (h : IsDs Z H p vs ds) : IsDs Z H p' vs ds := IsDs.mv (fun _ _ q => by rw [e]; exact q) l ds h
theorem IsTop.mv {H : Hp} {p p' : Pl} (e : ∀ (n : Nat) (x : Addr), p.α[n]? = some x → p'.α[n]? = some x) (l : ∀ a, p'.has a → p.has a) {a : Addr} {d : Dat} (h : IsTop Z H p a d) : IsTop Z H p' a d := by
  cases d with
  | lst ds => obtain ⟨vs, e1, h1⟩ := h; exact ⟨vs, e1, IsDs.mv e l _ h1⟩
  | dic ks ds => obtain ⟨vs, e1, n, h1⟩ := h; exact ⟨vs, e1, n, IsDs.mv e l _ h1⟩
  | obj c fs ds => obtain ⟨dx, vs, e1, n, h1⟩ := h; exact ⟨dx, vs, e1, n, IsDs.mv e l _ h1⟩
  | _ => exact h.elim
theorem IsTop.less {H : Hp} {p p' : Pl} (e : p'.α = p.α) (l : ∀ a, p'.has a → p.has a) {a : Addr} {d : Dat} (h : IsTop Z H p a d) : IsTop Z H p' a d := by
  cases d with
  | lst ds => obtain ⟨vs, e1, h1⟩ := h; exact ⟨vs, e1, IsDs.less e l _ h1⟩
  | dic ks ds => obtain ⟨vs, e1, n, h1⟩ := h; exact ⟨vs, e1, n, IsDs.less e l _ h1⟩
  | obj c fs ds => obtain ⟨dx, vs, e1, n, h1⟩ := h; exact ⟨dx, vs, e1, n, IsDs.less e l _ h1⟩
  | _ => exact h.elim
/-- fewer own places -/
theorem IsS.less {H : Hp} {p : Pl} {S : List Dat} (s : IsS Z H p S) {ω : List Addr} (l : ∀ a ∈ ω, a ∈ p.ω) : IsS Z H ⟨p.α, ω, p.γ⟩ S :=
  have l2 : ∀ a, (⟨p.α, ω, p.γ⟩ : Pl).has a → p.has a := fun a h => h.imp id fun h => h.imp (l a) id
  ⟨s.len, s.nd, fun a h => s.dj a (l a h), s.dg, fun a h => s.wt a (h.imp (l a) id), fun n a d h1 h2 => IsTop.less (p := p) (p' := ⟨p.α, ω, p.γ⟩) rfl l2 (s.at_ n a d h1 h2)⟩
/-- a new own place -/
theorem ExtC.plus {H H1 : Hp} {p : Pl} {D : Addr} {α' : List Addr} (e : ExtE H p H1 ⟨α', p.ω, p.γ⟩) (nD : H D = none) : ExtC H p H1 ⟨α', p.ω ++ [D], p.γ⟩ :=
  ⟨e.α, ⟨[D], rfl, fun b h => by rw [List.mem_singleton.mp h]; exact nD⟩, rfl, e.k, e.t⟩
theorem Post.plus {α : Type} {o : Out α} {H : Hp} {p : Pl} {C : α → List Dat → Hp → Pl → Prop} (q : Post Z Er ExtE o H p C) {D : Addr} : Post Z Er ExtE o H ⟨p.α, p.ω ++ [D], p.γ⟩ (fun a S' H' p' => C a S' H' ⟨p'.α, p.ω, p'.γ⟩) := by
  have key : ∀ H' p' S', ExtE H ⟨p.α, p.ω ++ [D], p.γ⟩ H' p' → IsS Z H' p' S' → ExtE H p H' ⟨p'.α, p.ω, p'.γ⟩ ∧ IsS Z H' ⟨p'.α, p.ω, p'.γ⟩ S' := fun H' p' S' e s =>
    ⟨⟨e.α, rfl, e.γ, e.k, e.t⟩, s.less fun a h => by rw [e.ω]; exact List.mem_append_left _ h⟩
  unfold Post at q ⊢
  cases o with
  | ok a S2 => exact fun H' p' e s => q H' ⟨p'.α, p.ω, p'.γ⟩ (key H' p' S2 e s).1 (key H' p' S2 e s).2
  | er a b S2 => exact fun H' p' e s => q H' ⟨p'.α, p.ω, p'.γ⟩ (key H' p' S2 e s).1 (key H' p' S2 e s).2
  | bad => exact q
/-- the own place D is written, which no slot has -/
theorem IsE.put {H : Hp} {p : Pl} {σ : L2.St} {ρ : Env} (h : IsE Z O H p σ ρ) {D : Addr} {o : HO} (hD : D ∈ p.ω) (n : ∀ i ∈ O, σ[i]? ≠ some (some (.ref D))) : IsE Z O (L2.upd H D o) p σ ρ := by
  have e : Ext H p (L2.upd H D o) p := ⟨⟨[], by simp⟩, ⟨[], by simp⟩, rfl, fun a u e n1 n2 => by rw [upd_ne fun z => n2 (by rw [z]; exact hD)]; exact e, fun a na => by
    by_cases c : a = D
    · rw [c, upd_same]; exact nofun
    · rw [upd_ne c]; exact na⟩
  refine ⟨h.len, fun i d ni q => ?_, fun i d oi q => ?_, h.dj⟩
  · obtain ⟨v, h1, h2⟩ := h.get i d ni q
    exact ⟨v, h1, h2.ext e⟩
  · obtain ⟨a, h1, h2, h3⟩ := h.own i d oi q
    exact ⟨a, h1, h2, h3.ext e fun u z => by rw [upd_ne fun c => n i oi (by rw [← c]; exact h1)]; exact z⟩
theorem IsS.put {H : Hp} {p : Pl} {S : List Dat} (s : IsS Z H p S) {D : Addr} {o : HO} (hD : D ∈ p.ω) : IsS Z (L2.upd H D o) p S := by
  have e : Ext H p (L2.upd H D o) p := ⟨⟨[], by simp⟩, ⟨[], by simp⟩, rfl, fun a u e n1 n2 => by rw [upd_ne fun z => n2 (by rw [z]; exact hD)]; exact e, fun a na => by
    by_cases c : a = D
    · rw [c, upd_same]; exact nofun
    · rw [upd_ne c]; exact na⟩
  exact ⟨s.len, s.nd, s.dj, s.dg, fun a h => e.t a (s.wt a h), fun n a d h1 h2 => (s.at_ n a d h1 h2).ext e fun u z => by rw [upd_ne fun c => (s.dj D hD).1 (by rw [← c]; exact List.mem_of_getElem? h1)]; exact z⟩
theorem ext_put {H : Hp} {p : Pl} {D : Addr} {o : HO} (hD : D ∈ p.ω) : Ext H p (L2.upd H D o) p := ⟨⟨[], by simp⟩, ⟨[], by simp⟩, rfl, fun a u e n1 n2 => by rw [upd_ne fun z => n2 (by rw [z]; exact hD)]; exact e, fun a na => by
    by_cases c : a = D
    · rw [c, upd_same]; exact nofun
    · rw [upd_ne c]; exact na⟩
/-- a new own place comes into being -/
theorem own_new {H : Hp} {p : Pl} {S : List Dat} {σ : L2.St} {ρ : Env} (hE : IsE Z O H p σ ρ) (hS : IsS Z H p S) {D : Addr} {o : HO} (nD : H D = none) : IsE Z O (L2.upd H D o) ⟨p.α, p.ω ++ [D], p.γ⟩ σ ρ ∧ IsS Z (L2.upd H D o) ⟨p.α, p.ω ++ [D], p.γ⟩ S := by
  have e : Ext H p (L2.upd H D o) ⟨p.α, p.ω ++ [D], p.γ⟩ := (ExtC.plus (ExtE.new nD) nD).s
  have hD := no_has hS nD
  refine ⟨⟨hE.len, fun i d ni q => ?_, fun i d oi q => ?_, hE.dj⟩, ⟨hS.len, hS.nd, fun a h => ?_, hS.dg, fun a h => ?_, fun n a d h1 h2 => ?_⟩⟩
  · obtain ⟨v, h1, h2⟩ := hE.get i d ni q
    exact ⟨v, h1, h2.ext e⟩
  · obtain ⟨a, h1, h2, h3⟩ := hE.own i d oi q
    exact ⟨a, h1, List.mem_append_left _ h2, h3.ext e fun u z => (upd_ne (ne_of_none z nD)).trans z⟩
  · rcases List.mem_append.mp h with h | h
    · exact hS.dj a h
    · rw [List.mem_singleton.mp h]
      exact ⟨fun z => hD (.inl z), fun z => hD (.inr (.inr z))⟩
  · rcases h with h | h
    · rcases List.mem_append.mp h with h | h
      · exact e.t a (hS.wt a (.inl h))
      · rw [List.mem_singleton.mp h, upd_same]
        exact nofun
    · exact e.t a (hS.wt a (.inr h))
  · exact (hS.at_ n a d h1 h2).ext e fun u z => (upd_ne (ne_of_none z nD)).trans z
theorem jf_lc {wi : TI} {it : Env → M (List Dat)} {g : TG} {gm : Env → Dat → Option Env} {vs : List Nat} (hi : JI Z Er O ExtC wi it) (hg : JG Z O g gm (some vs)) (hc : JB Z Er O tt mb) (he : JD Z Er O te m) : JF Z Er O (tLc wi g tt te vs) (xLc it gm mb m vs) := fun σ H p ρ S Q hE hS q =>
  hi σ H p ρ S _ hE hS ((q.bnd xE).mono fun ds S1 H1 p1 e1 s1 q1 Jt hJ => by
    obtain ⟨few, q2⟩ := q1.need
    have few : ds.length ≤ 100000 := of_decide_eq_true few
    have sz := sizeLine_eq
    intro D nD
    have hE1 := hE.ext e1 hS
    have noD : ∀ i ∈ O, σ[i]? ≠ some (some (.ref D)) ∨ ρ[i]? = none ∨ ρ[i]? = some none := fun i oi => by
      cases z : ρ[i]? with
      | none => exact .inr (.inl rfl)
      | some w =>
        cases w with
        | none => exact .inr (.inr rfl)
        | some d =>
          left
          obtain ⟨a, h1, h2, h3⟩ := hE1.own i d oi z
          rw [h1]
          intro c
          cases c
          exact s1.wt D (.inl h2) nD
    refine ⟨fun i n H' => n = ds.length - i ∧ i ≤ ds.length ∧ ∃ α' S' acc es, IsE Z O H' ⟨α', p1.ω ++ [D], p1.γ⟩ σ ρ ∧ IsS Z H' ⟨α', p1.ω ++ [D], p1.γ⟩ S' ∧ H' D = some (.lst acc) ∧ acc.length ≤ i ∧ IsDs Z H' ⟨α', p1.ω ++ [D], p1.γ⟩ acc es ∧ ExtE H1 p1 H' ⟨α', p1.ω, p1.γ⟩ ∧
        Post Z Er ExtE (compD gm mb m (wipeE ρ vs) (ds.drop i) S') H1 p1 (fun xs S'' H'' p'' => ∀ ws, H'' D = some (.lst ws) → ¬ p''.has D → IsS Z H'' ⟨p''.α, p''.ω ++ [D], p''.γ⟩ S'' → IsDs Z H'' ⟨p''.α, p''.ω ++ [D], p''.γ⟩ ws (es ++ xs) → Q (.ref D) H''), ?_, ?_⟩
    · obtain ⟨hE2, hS2⟩ := own_new (o := .lst []) hE1 s1 nD
      refine ⟨_, rfl, Nat.zero_le _, p1.α, S1, [], [], hE2, hS2, upd_same, Nat.le_refl _, isDs_nil.mpr rfl, ExtE.new nD, ?_⟩
      refine (q2.bnd xE).mono fun xs S'' H'' p'' e s q ws hD nh hs hws => ?_
      exact q.pure xE s D (back_of e1.t nD) (by rw [hD]; exact nofun) nh hs ⟨ws, hD, hws⟩
    · rintro i n H' ⟨rfl, le, α', S', acc, es, hE', hS', hD, la, hacc, ex, q'⟩
      have mD : D ∈ p1.ω ++ [D] := List.mem_append_right _ (List.mem_singleton.mpr rfl)
      have exC : ExtC H1 p1 H' ⟨α', p1.ω ++ [D], p1.γ⟩ := ExtC.plus ex nD
      by_cases lt : i < ds.length
      · have W := (hJ H' _ S' i exC hS').1 lt
        refine .inr ⟨W.1, fun H2 => ∃ α' S' acc es, IsE Z O H2 ⟨α', p1.ω ++ [D], p1.γ⟩ σ ρ ∧ IsS Z H2 ⟨α', p1.ω ++ [D], p1.γ⟩ S' ∧ H2 D = some (.lst acc) ∧ acc.length ≤ i + 1 ∧ IsDs Z H2 ⟨α', p1.ω ++ [D], p1.γ⟩ acc es ∧ ExtE H1 p1 H2 ⟨α', p1.ω, p1.γ⟩ ∧
            Post Z Er ExtE (compD gm mb m (wipeE ρ vs) (ds.drop (i + 1)) S') H1 p1 (fun xs S'' H'' p'' => ∀ ws, H'' D = some (.lst ws) → ¬ p''.has D → IsS Z H'' ⟨p''.α, p''.ω ++ [D], p''.γ⟩ S'' → IsDs Z H'' ⟨p''.α, p''.ω ++ [D], p''.γ⟩ ws (es ++ xs) → Q (.ref D) H''),
          fun H2 ⟨a, b, c, d, r⟩ => ⟨_, by omega, rfl, lt, a, b, c, d, r⟩, fun x Hx y => ?_⟩
        obtain ⟨sm, d, ed, hd⟩ := W.2 x Hx y
        have ed' : ds[i] = d := by
          rw [List.getElem?_eq_getElem lt] at ed
          exact Option.some.inj ed
        rw [drop_cons lt, ed'] at q'
        have eN : ∀ p, ExtE H' p Hx p := fun p => ExtE.same sm
        obtain ⟨ρ1, e, q3⟩ := q'.opt
        have hEx := hE'.ext (eN _) hS'
        refine hg x _ Hx _ _ d _ (hEx.wipe vs) hd ⟨ρ1, e, fun σ1 hE1' wi => ⟨(wi vs rfl).trans (wipe_wipe σ vs), ?_⟩⟩
        refine hc σ1 Hx _ ρ1 S' _ hE1' (hS'.ext sm) ((q3.bndK.up xE (ex.trans (eN _))).plus.mono fun b S2 H2 p2 e2 s2 q4 c hcb => ?_)
        subst hcb
        have ex2 : ExtE H1 p1 H2 ⟨p2.α, p1.ω, p1.γ⟩ := by
          have z := (ex.trans (eN _))
          refine z.trans ⟨e2.α, rfl, rfl, e2.k, e2.t⟩
        have ep2 : p2 = ⟨p2.α, p1.ω ++ [D], p1.γ⟩ := by
          have h1 := e2.ω
          have h2 := e2.γ
          cases p2
          cases h1
          cases h2
          rfl
        have nDα : D ∉ p2.α := (s2.dj D (by rw [e2.ω]; exact mD)).1
        have eH2 : ExtE H' ⟨α', p1.ω ++ [D], p1.γ⟩ H2 p2 := (eN _).trans e2
        have hE2 : IsE Z O H2 p2 σ ρ := hE'.ext eH2 hS'
        have hD2 : H2 D = some (.lst acc) := eH2.k D _ hD (hS'.dj D mD).1
        have hacc2 := hacc.ext eH2.s
        cases c with
        | true =>
          show te σ1 H2 _
          have q5 : Post Z Er ExtE ((m ρ1 >>= fun x => compD gm mb m (wipeE ρ vs) (ds.drop (i + 1)) >>= fun xs => pure (x :: xs)) S2) H1 p1 _ := q4
          have q6 := (q5.bndK.up xE ex2).plus (D := D)
          have e23 : (⟨p2.α, p1.ω ++ [D], p1.γ⟩ : Pl) = p2 := by rw [ep2]
          rw [e23] at q6
          refine he σ1 H2 p2 ρ1 S2 _ (hE1'.ext e2 (hS'.ext sm)) s2 (q6.mono fun x3 S3 H3 p3 e3 s3 q7 v hv => ?_)
          have ep3 : p3 = ⟨p3.α, p1.ω ++ [D], p1.γ⟩ := by
            have h1 := e3.ω
            have h2 := e3.γ
            rw [ep2] at h1 h2
            cases p3
            cases h1
            cases h2
            rfl
          have mD3 : D ∈ p3.ω := by rw [ep3]; exact mD
          have hD3 : H3 D = some (.lst acc) := e3.k D _ hD2 nDα
          have hacc3 := hacc2.ext e3.s
          have hE3 := hE2.ext e3 s2
          have noO : ∀ (i : Nat) (d : Dat), i ∈ O → ρ[i]? = some (some d) → σ[i]? ≠ some (some (.ref D)) := fun i d oi z => by
            rcases noD i oi with h | h | h
            · exact h
            · rw [h] at z; cases z
            · rw [h] at z; cases z
          have ePut : Ext H3 p3 (L2.upd H3 D (.lst (acc ++ [v]))) p3 := ext_put mD3
          refine ⟨acc, hD3, by omega, p3.α, S3, acc ++ [v], es ++ [x3], ?_, ?_, upd_same, by rw [List.length_append, List.length_singleton]; omega, ?_, ?_, ?_⟩
          · rw [← ep3]
            refine ⟨hE3.len, fun j d nj z => ?_, fun j d oj z => ?_, hE3.dj⟩
            · obtain ⟨v, h1, h2⟩ := hE3.get j d nj z
              exact ⟨v, h1, h2.ext ePut⟩
            · obtain ⟨a, h1, h2, h3⟩ := hE3.own j d oj z
              exact ⟨a, h1, h2, h3.ext ePut fun u zz => by rw [upd_ne fun c => noO j d oj z (by rw [← c]; exact h1)]; exact zz⟩
          · rw [← ep3]
            exact s3.put mD3
          · rw [← ep3]
            exact (hacc3.append (.one hv)).ext ePut
          · have z : ExtE H1 p1 H3 ⟨p3.α, p1.ω, p1.γ⟩ := ex2.trans ⟨e3.α, rfl, rfl, e3.k, e3.t⟩
            exact ⟨z.α, rfl, rfl, fun a o h n => by rw [upd_ne (ne_of_none h nD)]; exact z.k a o h n, fun a n => by rw [upd_ne fun c => n (by rw [c]; exact nD)]; exact z.t a n⟩
          · refine q7.bndK.mono fun xs S'' H'' p'' e s q ws hDw nh hs hws => ?_
            refine q H'' p'' e s ws hDw nh hs ?_
            rw [List.append_assoc] at hws
            exact hws
        | false =>
          have q5 : Post Z Er ExtE (compD gm mb m (wipeE ρ vs) (ds.drop (i + 1)) S2) H1 p1 _ := q4
          exact ⟨p2.α, S2, acc, es, by rw [← ep2]; exact hE2, by rw [← ep2]; exact s2, hD2, by omega, by rw [← ep2]; exact hacc2, ex2, q5⟩
      · have e : i = ds.length := by omega
        subst e
        rw [List.drop_length] at q'
        refine .inl ⟨(hJ H' _ S' _ exC hS').2 rfl, ?_⟩
        have hS3 := hS'.less (ω := p1.ω) fun a h => List.mem_append_left _ h
        have nh : ¬ (⟨α', p1.ω, p1.γ⟩ : Pl).has D := by
          rintro (h | h | h)
          · exact (hS'.dj D mD).1 h
          · exact s1.wt D (.inl h) nD
          · exact s1.wt D (.inr h) nD
        refine q' H' _ ex hS3 acc hD nh hS' ?_
        rw [List.append_nil]
        exact hacc)
theorem IsDs.unplus {H : Hp} {p : Pl} {a : Addr} {vs : List V} {ds : List Dat} (h : IsDs Z H ⟨p.α, p.ω ++ [a], p.γ⟩ vs ds) : IsDs Z H p vs ds :=
  have l2 : ∀ b, p.has b → (⟨p.α, p.ω ++ [a], p.γ⟩ : Pl).has b := fun b h => h.imp id fun h => h.imp (List.mem_append_left _) id
  IsDs.less (p := ⟨p.α, p.ω ++ [a], p.γ⟩) (p' := p) rfl l2 _ h
theorem IsTop.isD {H : Hp} {p : Pl} {a : Addr} {d : Dat} (nh : ¬ p.has a) (h : IsTop Z H ⟨p.α, p.ω ++ [a], p.γ⟩ a d) : IsD Z H p (.ref a) d := by
  cases d with
  | lst ds => obtain ⟨vs, e1, h1⟩ := h; exact isD_lst.mpr ⟨a, vs, rfl, ⟨e1, nh⟩, h1.unplus⟩
  | dic ks ds => obtain ⟨vs, e1, n, h1⟩ := h; exact isD_dic.mpr ⟨a, vs, rfl, ⟨e1, nh⟩, n, h1.unplus⟩
  | obj c fs ds => obtain ⟨dx, vs, e1, n, h1⟩ := h; exact isD_obj.mpr ⟨a, vs, rfl, ⟨⟨dx, e1⟩, nh⟩, n, h1.unplus⟩
  | _ => exact h.elim
theorem JF.d (h : JF Z Er O te m) : JD Z Er O te m := fun σ H p ρ S Q hE hS q => h σ H p ρ S Q hE hS (q.mono fun d S' H' p' _ _ k a _ _ nh _ t => k _ (t.isD nh))
theorem j_lc {wi : TI} {it : Env → M (List Dat)} {g : TG} {gm : Env → Dat → Option Env} {vs : List Nat} (hi : JI Z Er O ExtC wi it) (hg : JG Z O g gm (some vs)) (hc : JB Z Er O tt mb) (he : JD Z Er O te m) : JD Z Er O (tLc wi g tt te vs) (xLc it gm mb m vs) := (jf_lc hi hg hc he).d
theorem jf_lst (hl : JA Z Er O tl ml) : JF Z Er O (tLst tl) (xLst ml) := fun σ H p ρ S Q hE hS q =>
  hl σ H p ρ S _ hE hS ((q.bnd xE).mono fun ds S1 H1 p1 e1 s1 q1 vs hv => by
    obtain ⟨c, q2⟩ := q1.need
    refine ⟨few (by rw [hv.len]; exact of_decide_eq_true c), fun a na => q2.at_new s1 na a (back_of e1.t na) (by rw [upd_same]; exact nofun) (no_has s1 na) (own_new (hE.ext e1 hS) s1 na).2 ⟨vs, upd_same, ?_⟩⟩
    exact hv.ext (ExtC.plus (ExtE.new na) na).s)
def xDic0 (_ : Env) : M Dat := pure (.dic [] [])
theorem jf_dic0 : JF Z Er O tDNewK xDic0 := fun σ H p ρ S Q hE hS q a na => q.at_new hS na a na (by rw [upd_same]; exact nofun) (no_has hS na) (own_new hE hS na).2 ⟨[], upd_same, rfl, isDs_nil.mpr rfl⟩
end
end Zd

namespace Zd
open PySem PySem.Spec PyProof.Rows L2

/-! ### trees as the library's data -/
mutual
def toPy : Dat → Option PyData
  | .non => some .none
  | .bl b => some (.bool b)
  | .int i => some (.int i)
  | .str x => some (.str x)
  | .tup ds => (toPys ds).map .tuple
  | .lst ds => (toPys ds).map .list
  | _ => none
def toPys : List Dat → Option (List PyData)
  | [] => some []
  | d :: ds => (toPy d).bind fun x => (toPys ds).map (x :: ·)
end
section
variable {Z : Cz} {H : Hp} {p : Pl}
theorem toPys_cons {d : Dat} {ds : List Dat} {ys : List PyData} (h : toPys (d :: ds) = some ys) : ∃ x xs, toPy d = some x ∧ toPys ds = some xs ∧ ys = x :: xs := by
  rw [toPys] at h
  cases e : toPy d with
  | none => rw [e] at h; cases h
  | some x =>
    cases e2 : toPys ds with
    | none => rw [e, e2] at h; cases h
    | some xs => rw [e, e2] at h; cases h; exact ⟨x, xs, rfl, rfl, rfl⟩
mutual
theorem IsD.dp : ∀ (d : Dat) {v : V} {y : PyData}, IsD Z H p v d → toPy d = some y → Dp Z.K H v y
  | .non, _, _, h, e => by rw [toPy] at e; cases e; rw [isD_non.mp h]; exact .non
  | .bl b, _, _, h, e => by rw [toPy] at e; cases e; rw [isD_bl.mp h]; exact .bl b
  | .int i, _, _, h, e => by rw [toPy] at e; cases e; rw [isD_int.mp h]; exact .int i
  | .str x, _, _, h, e => by rw [toPy] at e; cases e; rw [isD_str.mp h]; exact .str x
  | .tup ds, _, y, h, e => by
    obtain ⟨a, vs, rfl, h1, h2⟩ := isD_tup.mp h
    rw [toPy] at e
    cases e2 : toPys ds with
    | none => rw [e2] at e; cases e
    | some ys => rw [e2] at e; cases e; exact .tup h1.sq (IsDs.dp ds h2 e2)
  | .lst ds, _, y, h, e => by
    obtain ⟨a, vs, rfl, h1, h2⟩ := isD_lst.mp h
    rw [toPy] at e
    cases e2 : toPys ds with
    | none => rw [e2] at e; cases e
    | some ys => rw [e2] at e; cases e; exact .lst h1.sq (IsDs.dp ds h2 e2)
  | .dic _ _, _, _, _, e => by rw [toPy] at e <;> first | cases e | nofun
  | .obj _ _ _, _, _, _, e => by rw [toPy] at e <;> first | cases e | nofun
  | .loc _, _, _, _, e => by rw [toPy] at e <;> first | cases e | nofun
  | .ty _, _, _, _, e => by rw [toPy] at e <;> first | cases e | nofun
  | .cls _, _, _, _, e => by rw [toPy] at e <;> first | cases e | nofun
  | .scr _, _, _, _, e => by rw [toPy] at e <;> first | cases e | nofun
theorem IsDs.dp : ∀ (ds : List Dat) {vs : List V} {ys : List PyData}, IsDs Z H p vs ds → toPys ds = some ys → DpAll Z.K H vs ys
  | [], _, _, h, e => by rw [toPys] at e; cases e; rw [isDs_nil.mp h]; exact .nil
  | d :: ds, _, _, h, e => by
    obtain ⟨v, r, rfl, h1, h2⟩ := isDs_cons.mp h
    obtain ⟨x, xs, e1, e2, rfl⟩ := toPys_cons e
    exact .cons (IsD.dp d h1 e1) (IsDs.dp ds h2 e2)
end
theorem IsW.dp {v : V} {d : Dat} {y : PyData} (h : IsW Z H p v d) (e : toPy d = some y) : Dp Z.K H v y := by
  cases d with
  | lst ds =>
    obtain ⟨a, vs, rfl, h1, h2⟩ := h
    rw [toPy] at e
    cases e2 : toPys ds with
    | none => rw [e2] at e; cases e
    | some ys => rw [e2] at e; cases e; exact .lst (SqL.of h1.1) (IsDs.dp ds h2 e2)
  | dic _ _ => rw [toPy] at e <;> first | cases e | nofun
  | obj _ _ _ => rw [toPy] at e <;> first | cases e | nofun
  | non => exact IsD.dp _ h e
  | bl b => exact IsD.dp _ h e
  | int i => exact IsD.dp _ h e
  | str x => exact IsD.dp _ h e
  | tup ds => exact IsD.dp _ h e
  | loc n => exact IsD.dp _ h e
  | ty n => exact IsD.dp _ h e
  | cls n => exact IsD.dp _ h e
  | scr n => exact IsD.dp _ h e
end

/-! ### operations -/
section
variable {Z : Cz} {Er : ErW} {O : List Nat}
/-- of two ints, of one -/
def dI (C : Int → Int → Bool) (G : Int → Int → Dat) (d e : Dat) : M Dat := match d, e with
  | .int i, .int j => M.need (C i j) >>= fun _ => pure (G i j)
  | _, _ => M.no
def dI0 (G : Int → Int → Dat) (d e : Dat) : M Dat := match d, e with
  | .int i, .int j => pure (G i j)
  | _, _ => M.no
theorem bad_no {α : Type} {S : List Dat} {H : Hp} {p : Pl} {X : XR} {C : α → List Dat → Hp → Pl → Prop} (h : Post Z Er X ((M.no : M α) S) H p C) : False := h
theorem jr_I0 {g : Int → Int → V} {G : Int → Int → Dat} (h : ∀ i j H p, IsD Z H p (g i j) (G i j)) : JR Z (IsD Z) (IsD Z) (IsD Z) (rI0 g) (dI0 G) := fun x y d e Er H p S Q hx hy s q => by
  unfold dI0 at q
  split at q
  · exact ⟨_, _, isD_int.mp hx, isD_int.mp hy, q.pure xE s _ (h _ _ H p)⟩
  · exact (bad_no q).elim
theorem jr_I {C : Int → Int → Prop} {B : Int → Int → Bool} {g : Int → Int → V} {G : Int → Int → Dat} (hB : ∀ i j, B i j = true → C i j) (h : ∀ i j H p, IsD Z H p (g i j) (G i j)) : JR Z (IsD Z) (IsD Z) (IsD Z) (rI C g) (dI B G) := fun x y d e Er H p S Q hx hy s q => by
  unfold dI at q
  split at q
  · obtain ⟨c, q⟩ := q.need
    exact ⟨_, _, isD_int.mp hx, isD_int.mp hy, hB _ _ c, q.pure xE s _ (h _ _ H p)⟩
  · exact (bad_no q).elim
def dAdd := dI0 fun i j => .int (i + j)
def dSub := dI0 fun i j => .int (i - j)
def bMul (i j : Int) : Bool := (decide (-(2 ^ 64) < i) && decide (i < 2 ^ 64)) || (decide (-(2 ^ 64) < j) && decide (j < 2 ^ 64))
def dMul := dI bMul fun i j => .int (i * j)
def dMod := dI (fun _ j => decide (0 < j)) fun i j => .int (i % j)
def dDiv := dI (fun _ j => decide (0 < j) && decide (j < 2 ^ 200)) fun i j => .int (i / j)
def bPow (i j : Int) : Bool := decide (0 ≤ j) && decide (j ≤ 1000000) && decide (i.natAbs < 2 ^ 64)
def dPow := dI bPow fun i j => .int (i ^ j.toNat)
def bPowZ (i j : Int) : Bool := decide (0 ≤ j) && decide ((Builtin.Int.intBits i : Int) * j ≤ 2 ^ 27)
def dPowZ := dI bPowZ fun i j => .int (i ^ j.toNat)
def dLt := dI0 fun i j => .bl (decide (i < j))
def dLe := dI0 fun i j => .bl (decide (i ≤ j))
def dGt := dI0 fun i j => .bl (decide (j < i))
def dGe := dI0 fun i j => .bl (decide (j ≤ i))
abbrev JRD (Z : Cz) (r : L2.R2) (f : Dat → Dat → M Dat) : Prop := JR Z (IsD Z) (IsD Z) (IsD Z) r f
theorem r_add : JRD Z (rI0 fun i j => .int (i + j)) dAdd := jr_I0 fun _ _ _ _ => isD_int.mpr rfl
theorem r_sub : JRD Z (rI0 fun i j => .int (i - j)) dSub := jr_I0 fun _ _ _ _ => isD_int.mpr rfl
theorem r_lt : JRD Z (rI0 fun i j => .bl (decide (i < j))) dLt := jr_I0 fun _ _ _ _ => isD_bl.mpr rfl
theorem r_le : JRD Z (rI0 fun i j => .bl (decide (i ≤ j))) dLe := jr_I0 fun _ _ _ _ => isD_bl.mpr rfl
theorem r_gt : JRD Z (rI0 fun i j => .bl (decide (j < i))) dGt := jr_I0 fun _ _ _ _ => isD_bl.mpr rfl
theorem r_ge : JRD Z (rI0 fun i j => .bl (decide (j ≤ i))) dGe := jr_I0 fun _ _ _ _ => isD_bl.mpr rfl
theorem r_mul : JRD Z (rI CMul fun i j => .int (i * j)) dMul := jr_I (fun i j h => by
  unfold bMul at h
  simp only [Bool.or_eq_true, Bool.and_eq_true, decide_eq_true_eq] at h
  exact h) fun _ _ _ _ => isD_int.mpr rfl
theorem r_mod : JRD Z (rI (fun _ j => 0 < j) fun i j => .int (i % j)) dMod := jr_I (fun i j h => of_decide_eq_true h) fun _ _ _ _ => isD_int.mpr rfl
theorem r_div : JRD Z (rI CDivW fun i j => .int (i / j)) dDiv := jr_I (fun i j h => by
  simp only [Bool.and_eq_true, decide_eq_true_eq] at h
  exact wide_div h.1 (b := 200) (by omega) (by decide) (by decide)) fun _ _ _ _ => isD_int.mpr rfl
theorem r_pow : JRD Z (rI CPow fun i j => .int (i ^ j.toNat)) dPow := jr_I (fun i j h => by
  unfold bPow at h
  simp only [Bool.and_eq_true, decide_eq_true_eq] at h
  exact ⟨h.1.1, h.1.2, h.2⟩) fun _ _ _ _ => isD_int.mpr rfl
theorem r_powZ : JRD Z (rI Zg.CPowZ fun i j => .int (i ^ j.toNat)) dPowZ := jr_I (fun i j h => by
  unfold bPowZ at h
  simp only [Bool.and_eq_true, decide_eq_true_eq] at h
  exact ⟨h.1, h.2⟩) fun _ _ _ _ => isD_int.mpr rfl
def dNeg (d : Dat) : M Dat := match d with
  | .int i => pure (.int (-i))
  | _ => M.no
theorem u_neg : JU Z (IsD Z) (IsD Z) (rU fun i => .int (-i)) dNeg := fun x d Er H p S Q hx s q => by
  unfold dNeg at q
  split at q
  · exact ⟨_, isD_int.mp hx, q.pure xE s _ (isD_int.mpr rfl)⟩
  · exact (bad_no q).elim
/-! == and != of flat values -/
def vS : Dat → Option V
  | .non => some .non
  | .bl b => some (.bl b)
  | .int i => some (.int i)
  | .str x => some (.str x)
  | _ => none
theorem vS_is {H : Hp} {p : Pl} {v x : V} {d : Dat} (h : IsD Z H p v d) (e : vS d = some x) : v = x := by
  cases d with
  | non => cases e; exact isD_non.mp h
  | bl b => cases e; exact isD_bl.mp h
  | int i => cases e; exact isD_int.mp h
  | str z => cases e; exact isD_str.mp h
  | _ => cases e
def dEq (d e : Dat) : M Dat := M.opt (vS d) >>= fun x => M.opt (vS e) >>= fun y => M.need (scal x y) >>= fun _ => pure (.bl (decide (x = y)))
def dNe (d e : Dat) : M Dat := M.opt (vS d) >>= fun x => M.opt (vS e) >>= fun y => M.need (scal x y) >>= fun _ => pure (.bl (!decide (x = y)))
theorem r_eq : JRD Z rEq dEq := fun x y d e Er H p S Q hx hy s q => by
  obtain ⟨v, e1, q⟩ := q.opt
  obtain ⟨w, e2, q⟩ := q.opt
  obtain ⟨c, q⟩ := q.need
  rw [vS_is hx e1, vS_is hy e2]
  exact ⟨c, q.pure xE s _ (isD_bl.mpr rfl)⟩
theorem r_ne : JRD Z rNe dNe := fun x y d e Er H p S Q hx hy s q => by
  obtain ⟨v, e1, q⟩ := q.opt
  obtain ⟨w, e2, q⟩ := q.opt
  obtain ⟨c, q⟩ := q.need
  rw [vS_is hx e1, vS_is hy e2]
  exact ⟨c, q.pure xE s _ (isD_bl.mpr rfl)⟩
def isNon : Dat → Bool
  | .non => true
  | _ => false
def dIsN (d e : Dat) : M Dat := match e with
  | .non => pure (.bl (isNon d))
  | _ => M.no
def dNotN (d e : Dat) : M Dat := match e with
  | .non => pure (.bl (!isNon d))
  | _ => M.no
theorem non_dec {H : Hp} {p : Pl} {v : V} {d : Dat} (h : IsD Z H p v d) : decide (v = V.non) = isNon d := by
  cases d with
  | non => rw [isD_non.mp h]; rfl
  | bl b => rw [isD_bl.mp h]; rfl
  | int i => rw [isD_int.mp h]; rfl
  | str z => rw [isD_str.mp h]; rfl
  | tup ds => obtain ⟨a, vs, rfl, _⟩ := isD_tup.mp h; rfl
  | lst ds => obtain ⟨a, vs, rfl, _⟩ := isD_lst.mp h; rfl
  | dic ks ds => obtain ⟨a, vs, rfl, _⟩ := isD_dic.mp h; rfl
  | obj c fs ds => obtain ⟨a, vs, rfl, _⟩ := isD_obj.mp h; rfl
  | loc n => obtain ⟨a, rfl, _⟩ := isD_loc.mp h; rfl
  | ty n => rw [isD_ty.mp h]; rfl
  | cls c => unfold IsD at h; rw [h]; rfl
  | scr ns => obtain ⟨a, rfl, _⟩ := isD_scr.mp h; rfl
theorem r_isN : JRD Z (fun x y H Q => y = .non ∧ Q (.bl (decide (x = .non))) H) dIsN := fun x y d e Er H p S Q hx hy s q => by
  unfold dIsN at q
  split at q
  · refine ⟨isD_non.mp hy, ?_⟩
    rw [non_dec hx]
    exact q.pure xE s _ (isD_bl.mpr rfl)
  · exact (bad_no q).elim
theorem r_notN : JRD Z (fun x y H Q => y = .non ∧ Q (.bl (!decide (x = .non))) H) dNotN := fun x y d e Er H p S Q hx hy s q => by
  unfold dNotN at q
  split at q
  · refine ⟨isD_non.mp hy, ?_⟩
    rw [non_dec hx]
    exact q.pure xE s _ (isD_bl.mpr rfl)
  · exact (bad_no q).elim
def dIsNotB (d e : Dat) : M Dat := match d, e with
  | .bl a, .bl b => pure (.bl (!decide (a = b)))
  | _, _ => M.no
theorem r_isNotB : JRD Z (fun x y H Q => ∃ a b, x = .bl a ∧ y = .bl b ∧ Q (.bl (!decide (a = b))) H) dIsNotB := fun x y d e Er H p S Q hx hy s q => by
  unfold dIsNotB at q
  split at q
  · exact ⟨_, _, isD_bl.mp hx, isD_bl.mp hy, q.pure xE s _ (isD_bl.mpr rfl)⟩
  · exact (bad_no q).elim
/-! data of any depth: ==, <, in -/
def shp (y : PyData) : Bool := SeqAt.shaped y
def dEqD (b : Bool) (d e : Dat) : M Dat := M.opt (toPy d) >>= fun x => M.opt (toPy e) >>= fun y => M.need (shp x && shp y) >>= fun _ => pure (.bl (b != PyData.eqv x y))
theorem r_eqD : JR Z (IsW Z) (IsW Z) (IsD Z) (rEqD Z.K) (dEqD false) := fun x y d e Er H p S Q hx hy s q => by
  obtain ⟨v, e1, q⟩ := q.opt
  obtain ⟨w, e2, q⟩ := q.opt
  obtain ⟨c, q⟩ := q.need
  rw [Bool.and_eq_true] at c
  exact ⟨v, w, hx.dp e1, hy.dp e2, c.1, c.2, q.pure xE s _ (isD_bl.mpr (by simp))⟩
theorem r_neD : JR Z (IsW Z) (IsW Z) (IsD Z) (rNeD Z.K) (dEqD true) := fun x y d e Er H p S Q hx hy s q => by
  obtain ⟨v, e1, q⟩ := q.opt
  obtain ⟨w, e2, q⟩ := q.opt
  obtain ⟨c, q⟩ := q.need
  rw [Bool.and_eq_true] at c
  exact ⟨v, w, hx.dp e1, hy.dp e2, c.1, c.2, q.pure xE s _ (isD_bl.mpr (by simp))⟩
def rLtD (K : PySem.W.Frag) : L2.R2 := fun x y H Q => ∃ d e, Dp K H x d ∧ Dp K H y e ∧ PySem.W.alike d e = true ∧ d ≠ .none ∧ d.depth ≤ 64 ∧ Q (.bl (PySem.W.dataLt d e)) H
theorem op_ltD {X : Cx} {K : PySem.W.Frag} (hu : X.A.units + 64 < cLine) (h : X.K = K := by rfl) : OpR X (compareOp .Lt) (rLtD K) := by
  subst h
  intro pins s σ H x y v u Q I rx ry h
  obtain ⟨d, e, hd, he, al, nn, sd, q⟩ := h
  obtain ⟨as, r1⟩ := Dp.reads I d x v hd rx
  obtain ⟨bs, r2⟩ := Dp.reads I e y u he ry
  refine PySem.W.lt_data r1 r2 al nn ?_ ⟨.bl _, H, I, rfl, q⟩
  have h2 : min d.depth e.depth ≤ d.depth := Nat.min_le_left _ _
  omega
def isNone : PyData → Bool
  | .none => true
  | _ => false
def dLtD (d e : Dat) : M Dat := M.opt (toPy d) >>= fun x => M.opt (toPy e) >>= fun y => M.need (PySem.W.alike x y && !isNone x && decide (x.depth ≤ 64)) >>= fun _ => pure (.bl (PySem.W.dataLt x y))
theorem r_ltD : JRD Z (rLtD Z.K) dLtD := fun x y d e Er H p S Q hx hy s q => by
  obtain ⟨v, e1, q⟩ := q.opt
  obtain ⟨w, e2, q⟩ := q.opt
  obtain ⟨c, q⟩ := q.need
  simp only [Bool.and_eq_true, decide_eq_true_eq, Bool.not_eq_true'] at c
  refine ⟨v, w, hx.dp _ e1, hy.dp _ e2, c.1.1, fun z => ?_, c.2, q.pure xE s _ (isD_bl.mpr rfl)⟩
  rw [z] at c
  exact absurd c.1.2 (by decide)
def rInDD (K : PySem.W.Frag) (neg : Bool) : L2.R2 := fun x y H Q => ∃ d ds, Dp K H x d ∧ (Dp K H y (.tuple ds) ∨ Dp K H y (.list ds)) ∧ SeqAt.shaped d = true ∧ SeqAt.shaped (.tuple ds) = true ∧ Q (.bl (neg != ds.any fun z => PyData.eqv z d)) H
theorem op_inDD {X : Cx} {K : PySem.W.Frag} (hu : X.A.units + 70 < cLine) (h : X.K = K := by rfl) : OpR X (compareOp .In) (rInDD K false) := by
  subst h
  intro pins s σ H x y v u Q I rx ry h
  obtain ⟨d, ds, hd, he, sd, se, q⟩ := h
  obtain ⟨as, r1⟩ := Dp.reads I d x v hd rx
  rw [Bool.false_bne] at q
  rcases he with he | he
  · obtain ⟨bs, r2⟩ := Dp.reads I (.tuple ds) y u he ry
    exact SeqAt.in_tuple_reads r2 r1 (SeqAt.canLay_of_shaped se) (SeqAt.canLay_of_shaped sd) (room_in_shaped sd (by omega)) ⟨.bl _, H, I, rfl, q⟩
  · obtain ⟨bs, r2⟩ := Dp.reads I (.list ds) y u he ry
    exact SeqAt.in_list_reads r2 r1 (SeqAt.canLay_of_shaped se) (SeqAt.canLay_of_shaped sd) (room_in_shaped sd (by omega)) ⟨.bl _, H, I, rfl, q⟩
theorem op_notInDD {X : Cx} {K : PySem.W.Frag} (hu : X.A.units + 70 < cLine) (h : X.K = K := by rfl) : OpR X (compareOp .NotIn) (rInDD K true) := by
  subst h
  intro pins s σ H x y v u Q I rx ry h
  obtain ⟨d, ds, hd, he, sd, se, q⟩ := h
  obtain ⟨as, r1⟩ := Dp.reads I d x v hd rx
  rw [Bool.true_bne] at q
  rcases he with he | he
  · obtain ⟨bs, r2⟩ := Dp.reads I (.tuple ds) y u he ry
    exact SeqAt.notIn_tuple_reads r2 r1 (SeqAt.canLay_of_shaped se) (SeqAt.canLay_of_shaped sd) (room_in_shaped sd (by omega)) ⟨.bl _, H, I, rfl, q⟩
  · obtain ⟨bs, r2⟩ := Dp.reads I (.list ds) y u he ry
    exact SeqAt.notIn_list_reads r2 r1 (SeqAt.canLay_of_shaped se) (SeqAt.canLay_of_shaped sd) (room_in_shaped sd (by omega)) ⟨.bl _, H, I, rfl, q⟩
def itemsOf : Dat → Option (List Dat)
  | .tup ds => some ds
  | .lst ds => some ds
  | _ => none
def dIn (neg : Bool) (d e : Dat) : M Dat := M.opt (toPy d) >>= fun x => M.opt ((itemsOf e).bind toPys) >>= fun ys => M.need (shp x && shp (.tuple ys)) >>= fun _ => pure (.bl (neg != ys.any fun z => PyData.eqv z x))
theorem r_in {neg : Bool} : JR Z (IsD Z) (IsW Z) (IsD Z) (rInDD Z.K neg) (dIn neg) := fun x y d e Er H p S Q hx hy s q => by
  obtain ⟨v, e1, q⟩ := q.opt
  obtain ⟨ws, e2, q⟩ := q.opt
  obtain ⟨c, q⟩ := q.need
  rw [Bool.and_eq_true] at c
  refine ⟨v, ws, hx.dp _ e1, ?_, c.1, c.2, q.pure xE s _ (isD_bl.mpr rfl)⟩
  cases e with
  | tup ds =>
    left
    refine hy.dp ?_
    rw [toPy]
    have e2 : toPys ds = some ws := e2
    rw [e2]; rfl
  | lst ds =>
    right
    refine hy.dp ?_
    rw [toPy]
    have e2 : toPys ds = some ws := e2
    rw [e2]; rfl
  | _ => cases e2
/-! tuples, lists: +, *, [], [:] -/
def dCatT (d e : Dat) : M Dat := match d, e with
  | .tup xs, .tup ys => M.need (decide (xs.length + ys.length ≤ 100000)) >>= fun _ => pure (.tup (xs ++ ys))
  | _, _ => M.no
theorem lim {n : Nat} (h : n ≤ 100000) : n ≤ sizeLine := by have := sizeLine_eq; omega
theorem r_catT : JRD Z (rCatA Z.K) dCatT := fun x y d e Er H p S Q hx hy s q => by
  unfold dCatT at q
  split at q
  · rename_i xs ys
    obtain ⟨c, q⟩ := q.need
    have c := of_decide_eq_true c
    obtain ⟨a, vs, rfl, h1, h2⟩ := isD_tup.mp hx
    obtain ⟨b, ws, rfl, g1, g2⟩ := isD_tup.mp hy
    refine ⟨a, b, vs, ws, rfl, rfl, h1.sq, g1.sq, lim (by rw [h2.len, g2.len]; exact c), fun z => ?_, fun z z2 => ?_, fun _ _ t nt => ?_⟩
    · have e : xs = [] := List.length_eq_zero_iff.mp (by rw [← h2.len, z]; rfl)
      subst e
      exact q.pure xE s _ hy
    · have e : ys = [] := List.length_eq_zero_iff.mp (by rw [← g2.len, z2]; rfl)
      subst e
      have q := q.pure xE s
      rw [List.append_nil] at q
      exact q _ hx
    · exact q.at_new s nt _ (new_tup s nt (h2.append g2))
  · exact (bad_no q).elim
def dCatL (d e : Dat) : M Dat := match d, e with
  | .lst xs, .lst ys => M.need (decide (xs.length + ys.length ≤ 100000)) >>= fun _ => pure (.lst (xs ++ ys))
  | _, _ => M.no
theorem r_catL : JR Z (IsW Z) (IsW Z) (IsD Z) rCat dCatL := fun x y d e Er H p S Q hx hy s q => by
  unfold dCatL at q
  split at q
  · obtain ⟨c, q⟩ := q.need
    have c := of_decide_eq_true c
    obtain ⟨a, vs, rfl, h1, h2⟩ := hx
    obtain ⟨b, ws, rfl, g1, g2⟩ := hy
    exact ⟨a, b, vs, ws, rfl, rfl, h1.1, g1.1, lim (by rw [h2.len, g2.len]; exact c), fun t nt => q.at_new s nt _ (new_lst s nt (h2.append g2))⟩
  · exact (bad_no q).elim
theorem IsDs.rep {H : Hp} {p : Pl} {vs : List V} {ds : List Dat} (h : IsDs Z H p vs ds) : ∀ n : Nat, IsDs Z H p (List.replicate n vs).flatten (List.replicate n ds).flatten
  | 0 => isDs_nil.mpr rfl
  | n + 1 => by
    rw [List.replicate_succ, List.replicate_succ, List.flatten_cons, List.flatten_cons]
    exact h.append (IsDs.rep h n)
def dRepL (d e : Dat) : M Dat := match d, e with
  | .lst xs, .int k => M.need (decide (-(2 ^ 63) ≤ k) && decide (k < 2 ^ 63) && decide (xs.length * k.toNat ≤ 100000)) >>= fun _ => pure (.lst (List.replicate k.toNat xs).flatten)
  | _, _ => M.no
theorem r_repL : JRD Z rRep dRepL := fun x y d e Er H p S Q hx hy s q => by
  unfold dRepL at q
  split at q
  · obtain ⟨c, q⟩ := q.need
    simp only [Bool.and_eq_true, decide_eq_true_eq] at c
    obtain ⟨a, vs, rfl, h1, h2⟩ := isD_lst.mp hx
    exact ⟨a, _, vs, rfl, isD_int.mp hy, h1.1, c.1.1, c.1.2, lim (by rw [h2.len]; exact c.2), fun t nt => q.at_new s nt _ (new_lst s nt (h2.rep _))⟩
  · exact (bad_no q).elim
def dAddS (d e : Dat) : M Dat := match d, e with
  | .str x, .str y => M.need (decide (x.length + y.length ≤ 100000)) >>= fun _ => pure (.str (x ++ y))
  | _, _ => M.no
theorem r_addS : JRD Z (fun x y H Q => ∃ i j, x = .str i ∧ y = .str j ∧ i.length + j.length ≤ sizeLine ∧ Q (.str (i ++ j)) H) dAddS := fun x y d e Er H p S Q hx hy s q => by
  unfold dAddS at q
  split at q
  · obtain ⟨c, q⟩ := q.need
    exact ⟨_, _, isD_str.mp hx, isD_str.mp hy, lim (of_decide_eq_true c), q.pure xE s _ (isD_str.mpr rfl)⟩
  · exact (bad_no q).elim
def dLtS (d e : Dat) : M Dat := match d, e with
  | .str x, .str y => pure (.bl (decide (x.cps.toList < y.cps.toList)))
  | _, _ => M.no
theorem r_ltS : JRD Z (fun x y H Q => ∃ i j, x = .str i ∧ y = .str j ∧ Q (.bl (decide (i.cps.toList < j.cps.toList))) H) dLtS := fun x y d e Er H p S Q hx hy s q => by
  unfold dLtS at q
  split at q
  · exact ⟨_, _, isD_str.mp hx, isD_str.mp hy, q.pure xE s _ (isD_bl.mpr rfl)⟩
  · exact (bad_no q).elim
theorem atI_rel {H : Hp} {p : Pl} {vs : List V} {ds : List Dat} {i : Int} {d : Dat} (h : IsDs Z H p vs ds) (e : atI ds i = some d) : ∃ v, atI vs i = some v ∧ IsD Z H p v d := by
  unfold atI at e ⊢
  rw [h.len]
  cases q : ixN ds.length i with
  | none => rw [q] at e; cases e
  | some j =>
    rw [q] at e
    exact h.get e
def dIx (d e : Dat) : M Dat := match d, e with
  | .lst xs, .int i => M.opt (atI xs i)
  | .tup xs, .int i => M.opt (atI xs i)
  | _, _ => M.no
def dIxL (d e : Dat) : M Dat := match d, e with
  | .lst xs, .int i => M.opt (atI xs i)
  | _, _ => M.no
def dIxT (d e : Dat) : M Dat := match d, e with
  | .tup xs, .int i => M.opt (atI xs i)
  | _, _ => M.no
theorem r_ixT : JRD Z (rIxT Z.K) dIxT := fun x y d e Er H p S Q hx hy s q => by
  unfold dIxT at q
  split at q
  · obtain ⟨c, e, q⟩ := opt_pure xE q s
    obtain ⟨a, vs, rfl, h1, h2⟩ := isD_tup.mp hx
    obtain ⟨v, e1, e2⟩ := atI_rel h2 e
    exact ⟨a, vs, _, v, rfl, isD_int.mp hy, h1.sq, e1, q v e2⟩
  · exact (bad_no q).elim
theorem r_ixL : JR Z (IsW Z) (IsD Z) (IsD Z) (rIxL Z.K) dIxL := fun x y d e Er H p S Q hx hy s q => by
  unfold dIxL at q
  split at q
  · obtain ⟨c, e, q⟩ := opt_pure xE q s
    obtain ⟨a, vs, rfl, h1, h2⟩ := hx
    obtain ⟨v, e1, e2⟩ := atI_rel h2 e
    exact ⟨a, vs, _, v, rfl, isD_int.mp hy, SqL.of h1.1, e1, q v e2⟩
  · exact (bad_no q).elim
/-- a sign of the script -/
def dIxSc (d e : Dat) : M Dat := match d, e with
  | .scr xs, .int i => M.opt (atI xs i) >>= fun n => pure (.int n)
  | _, _ => M.no
theorem r_ixSc : JRD Z (rIxL Z.K) dIxSc := fun x y d e Er H p S Q hx hy s q => by
  unfold dIxSc at q
  split at q
  · rename_i xs i
    obtain ⟨n, e, q⟩ := q.opt
    obtain ⟨a, rfl, h1⟩ := isD_scr.mp hx
    have e1 : atI (xs.map V.int) i = some (.int n) := by
      unfold atI at e ⊢
      rw [List.length_map]
      cases z : ixN xs.length i with
      | none => rw [z] at e; cases e
      | some j =>
        rw [z] at e
        have e : xs[j]? = some n := e
        show (xs.map V.int)[j]? = some (.int n)
        rw [List.getElem?_map, e]
        rfl
    exact ⟨a, _, _, _, rfl, isD_int.mp hy, h1.elim (fun z => .inl z.1) fun z => z H, e1, q.pure xE s _ (isD_int.mpr rfl)⟩
  · exact (bad_no q).elim
/-- an item of a shared list -/
def dIxLo (d e : Dat) : M Dat := match d, e with
  | .loc n, .int i => fun S => match S[n]? with
    | some (.lst xs) => M.opt (atI xs i) S
    | _ => .bad
  | _, _ => M.no
theorem r_ixLo : JRD Z (rIxL Z.K) dIxLo := fun x y d e Er H p S Q hx hy s q => by
  cases d with
  | loc n =>
    cases e with
    | int i =>
      obtain ⟨a, rfl, ha⟩ := isD_loc.mp hx
      have q : Post Z Er ExtE (match S[n]? with | some (.lst xs) => M.opt (atI xs i) S | _ => .bad) H p _ := q
      split at q
      · rename_i xs ex
        obtain ⟨c, e, q⟩ := opt_pure xE q s
        obtain ⟨vs, h1, h2⟩ := s.at_ n a _ ha ex
        obtain ⟨v, e1, e2⟩ := atI_rel h2 e
        exact ⟨a, vs, _, v, rfl, isD_int.mp hy, SqL.of h1, e1, q v e2⟩
      · exact q.elim
    | _ => exact (bad_no (S := S) q).elim
  | _ => exact (bad_no (S := S) q).elim
def cutD (xs : List Dat) (lo hi : Option Int) : List Dat := (xs.drop (HT.sIx xs.length 0 lo)).take (HT.sIx xs.length xs.length hi - HT.sIx xs.length 0 lo)
theorem IsDs.cut {H : Hp} {p : Pl} {vs : List V} {ds : List Dat} (h : IsDs Z H p vs ds) (lo hi : Option Int) : IsDs Z H p (cutV vs lo hi) (cutD ds lo hi) := by
  unfold cutV cutD
  rw [h.len]
  exact (h.drop _).take _
def jSl (f : Dat → Option Int → Option Int → M Dat) (a : Env → M Dat) (l u : Env → M (Option Int)) (ρ : Env) : M Dat := a ρ >>= fun x => l ρ >>= fun lo => u ρ >>= fun hi => f x lo hi
def dCutT (d : Dat) (lo hi : Option Int) : M Dat := match d with
  | .tup xs => pure (.tup (cutD xs lo hi))
  | _ => M.no
def dCutL (d : Dat) (lo hi : Option Int) : M Dat := match d with
  | .lst xs => pure (.lst (cutD xs lo hi))
  | _ => M.no
def oNone (_ : Env) : M (Option Int) := pure none
def oSome (a : Env → M Dat) (ρ : Env) : M (Option Int) := a ρ >>= fun x => match x with
  | .int i => pure (some i)
  | _ => M.no
variable {te ta tb : TE} {tl th : TO} {m m1 m2 : Env → M Dat} {ml mh : Env → M (Option Int)}
theorem jo_none : JO Z Er O tNoPart oNone := fun σ H p ρ S Q hE hS q => q.pure xE hS none rfl
theorem jo_some (h : JD Z Er O te m) : JO Z Er O (tPart te) (oSome m) := fun σ H p ρ S Q hE hS q =>
  h σ H p ρ S _ hE hS ((q.bnd xE).mono fun d S1 H1 p1 e1 s1 q1 v hv => by
    cases d with
    | int i => exact ⟨i, isD_int.mp hv, q1.pure xE s1 _ rfl⟩
    | _ => exact (bad_no q1).elim)
theorem j_slT (h : JD Z Er O te m) (hl : JO Z Er O tl ml) (hh : JO Z Er O th mh) : JD Z Er O (tSl (rSlA Z.K) te tl th) (jSl dCutT m ml mh) := fun σ H p ρ S Q hE hS q =>
  h σ H p ρ S _ hE hS ((q.bnd xE).mono fun d S1 H1 p1 e1 s1 q1 v hv => hl σ H1 p1 ρ S1 _ (hE.ext e1 hS) s1 ((q1.bnd xE).mono fun lo S2 H2 p2 e2 s2 q2 lo' elo => hh σ H2 p2 ρ S2 _ ((hE.ext e1 hS).ext e2 s1) s2 ((q2.bnd xE).mono fun hi S3 H3 p3 e3 s3 q3 hi' ehi => by
    subst elo ehi
    have hv3 := hv.ext (e2.trans e3).s
    unfold dCutT at q3
    split at q3
    · rename_i xs
      obtain ⟨a, vs, rfl, h1, h2⟩ := isD_tup.mp hv3
      refine ⟨a, vs, rfl, h1.sq, fun wh => ?_, fun _ t nt => q3.at_new s3 nt _ (new_tup s3 nt (h2.cut _ _))⟩
      have e : cutD xs lo' hi' = xs := by
        rw [h2.len] at wh
        unfold cutD
        rw [wh.1, wh.2, List.drop_zero, Nat.sub_zero, List.take_length]
      have q3 := q3.pure xE s3
      rw [e] at q3
      exact q3 _ hv3
    · exact (bad_no q3).elim)))
theorem j_slL (h : JW Z Er O te m) (hl : JO Z Er O tl ml) (hh : JO Z Er O th mh) : JD Z Er O (tSl (rSlL Z.K) te tl th) (jSl dCutL m ml mh) := fun σ H p ρ S Q hE hS q =>
  h σ H p ρ S _ hE hS ((q.bnd xE).mono fun d S1 H1 p1 e1 s1 q1 v hv => hl σ H1 p1 ρ S1 _ (hE.ext e1 hS) s1 ((q1.bnd xE).mono fun lo S2 H2 p2 e2 s2 q2 lo' elo => hh σ H2 p2 ρ S2 _ ((hE.ext e1 hS).ext e2 s1) s2 ((q2.bnd xE).mono fun hi S3 H3 p3 e3 s3 q3 hi' ehi => by
    subst elo ehi
    have hv3 := upW.up (e2.trans e3) s1 hv
    unfold dCutL at q3
    split at q3
    · rename_i xs
      obtain ⟨a, vs, rfl, h1, h2⟩ := hv3
      exact ⟨a, vs, rfl, SqL.of h1.1, fun t nt => q3.at_new s3 nt _ (new_lst s3 nt (h2.cut _ _))⟩
    · exact (bad_no q3).elim)))
/-! t[::-1] -/

/-! ### built-in functions -/
def dLen (ds : List Dat) : M Dat := match ds with
  | [.lst xs] => pure (.int xs.length)
  | [.tup xs] => pure (.int xs.length)
  | [.scr xs] => pure (.int xs.length)
  | _ => M.no
abbrev JCW (Z : Cz) (r : List V → Hp → VK → Prop) (f : List Dat → M Dat) : Prop := JC Z (IsWs Z) (IsD Z) r f
theorem isWs_one {H : Hp} {p : Pl} {vs : List V} {d : Dat} (h : IsWs Z H p vs [d]) : ∃ v, vs = [v] ∧ IsW Z H p v d := by
  obtain ⟨v, r, rfl, h1, h2⟩ := h
  rw [isDs_nil.mp h2]
  exact ⟨v, rfl, h1⟩
theorem isDs_two {H : Hp} {p : Pl} {vs : List V} {d e : Dat} (h : IsDs Z H p vs [d, e]) : ∃ v w, vs = [v, w] ∧ IsD Z H p v d ∧ IsD Z H p w e := by
  obtain ⟨v, r, rfl, h1, h2⟩ := isDs_cons.mp h
  obtain ⟨w, r, rfl, h3, h4⟩ := isDs_cons.mp h2
  rw [isDs_nil.mp h4]
  exact ⟨v, w, rfl, h1, h3⟩
theorem isDs_one {H : Hp} {p : Pl} {vs : List V} {d : Dat} (h : IsDs Z H p vs [d]) : ∃ v, vs = [v] ∧ IsD Z H p v d := by
  obtain ⟨v, r, rfl, h1, h2⟩ := isDs_cons.mp h
  rw [isDs_nil.mp h2]
  exact ⟨v, rfl, h1⟩
theorem c_len : JCW Z (fun xs H Q => ∃ p ys, xs = [.ref p] ∧ (SqL Z.K H p ys ∨ SqT Z.K H p ys) ∧ Q (.int ys.length) H) dLen := fun x d Er H p S Q hx s q => by
  unfold dLen at q
  split at q
  · obtain ⟨v, rfl, hv⟩ := isWs_one hx
    obtain ⟨a, vs, rfl, h1, h2⟩ := hv
    refine ⟨a, vs, rfl, .inl (SqL.of h1.1), ?_⟩
    rw [h2.len]
    exact q.pure xE s _ (isD_int.mpr rfl)
  · obtain ⟨v, rfl, hv⟩ := isWs_one hx
    obtain ⟨a, vs, rfl, h1, h2⟩ := isD_tup.mp hv
    refine ⟨a, vs, rfl, .inr h1.sq, ?_⟩
    rw [h2.len]
    exact q.pure xE s _ (isD_int.mpr rfl)
  · obtain ⟨v, rfl, hv⟩ := isWs_one hx
    obtain ⟨a, rfl, h1⟩ := isD_scr.mp hv
    refine ⟨a, _, rfl, .inl (h1.elim (fun z => .inl z.1) fun z => z H), ?_⟩
    rw [List.length_map]
    exact q.pure xE s _ (isD_int.mpr rfl)
  · exact (bad_no q).elim
def dLenS (ds : List Dat) : M Dat := match ds with
  | [.str x] => M.need (decide (x.length ≤ 100000)) >>= fun _ => pure (.int x.length)
  | _ => M.no
theorem c_lenS : JC Z (IsDs Z) (IsD Z) (fun xs H Q => ∃ z, xs = [.str z] ∧ z.length ≤ sizeLine ∧ Q (.int z.length) H) dLenS := fun x d Er H p S Q hx s q => by
  unfold dLenS at q
  split at q
  · obtain ⟨c, q⟩ := q.need
    obtain ⟨v, rfl, hv⟩ := isDs_one hx
    exact ⟨_, by rw [isD_str.mp hv], lim (of_decide_eq_true c), q.pure xE s _ (isD_int.mpr rfl)⟩
  · exact (bad_no q).elim
def dMax (ds : List Dat) : M Dat := match ds with
  | [.int i, .int j] => pure (.int (if j > i then j else i))
  | _ => M.no
def dMin (ds : List Dat) : M Dat := match ds with
  | [.int i, .int j] => pure (.int (if j < i then j else i))
  | _ => M.no
def dAbs (ds : List Dat) : M Dat := match ds with
  | [.int i] => pure (.int (if i < 0 then -i else i))
  | _ => M.no
def dInt (ds : List Dat) : M Dat := match ds with
  | [.int i] => pure (.int i)
  | [.bl b] => pure (.int (if b then 1 else 0))
  | _ => M.no
theorem c_max : JC Z (IsDs Z) (IsD Z) (fun xs H Q => ∃ i j, xs = [.int i, .int j] ∧ Q (.int (if j > i then j else i)) H) dMax := fun x d Er H p S Q hx s q => by
  unfold dMax at q
  split at q
  · obtain ⟨v, w, rfl, h1, h2⟩ := isDs_two hx
    exact ⟨_, _, by rw [isD_int.mp h1, isD_int.mp h2], q.pure xE s _ (isD_int.mpr rfl)⟩
  · exact (bad_no q).elim
theorem c_min : JC Z (IsDs Z) (IsD Z) (fun xs H Q => ∃ i j, xs = [.int i, .int j] ∧ Q (.int (if j < i then j else i)) H) dMin := fun x d Er H p S Q hx s q => by
  unfold dMin at q
  split at q
  · obtain ⟨v, w, rfl, h1, h2⟩ := isDs_two hx
    exact ⟨_, _, by rw [isD_int.mp h1, isD_int.mp h2], q.pure xE s _ (isD_int.mpr rfl)⟩
  · exact (bad_no q).elim
theorem c_abs : JC Z (IsDs Z) (IsD Z) (fun xs H Q => ∃ i, xs = [.int i] ∧ Q (.int (if i < 0 then -i else i)) H) dAbs := fun x d Er H p S Q hx s q => by
  unfold dAbs at q
  split at q
  · obtain ⟨v, rfl, h1⟩ := isDs_one hx
    exact ⟨_, by rw [isD_int.mp h1], q.pure xE s _ (isD_int.mpr rfl)⟩
  · exact (bad_no q).elim
theorem c_int : JC Z (IsDs Z) (IsD Z) (fun xs H Q => (∃ i, xs = [.int i] ∧ Q (.int i) H) ∨ ∃ k, xs = [.bl k] ∧ Q (.int (if k then 1 else 0)) H) dInt := fun x d Er H p S Q hx s q => by
  unfold dInt at q
  split at q
  · obtain ⟨v, rfl, h1⟩ := isDs_one hx
    exact .inl ⟨_, by rw [isD_int.mp h1], q.pure xE s _ (isD_int.mpr rfl)⟩
  · obtain ⟨v, rfl, h1⟩ := isDs_one hx
    exact .inr ⟨_, by rw [isD_bl.mp h1], q.pure xE s _ (isD_int.mpr rfl)⟩
  · exact (bad_no q).elim
/-- all, any of a list of truths -/
def blsOf : List Dat → Option (List Bool)
  | [] => some []
  | .bl b :: r => (blsOf r).map (b :: ·)
  | _ => none
theorem blsOf_is {H : Hp} {p : Pl} : ∀ {ds : List Dat} {vs : List V} {bs : List Bool}, IsDs Z H p vs ds → blsOf ds = some bs → vs = bs.map V.bl
  | [], _, _, h, e => by cases e; exact isDs_nil.mp h
  | d :: ds, _, bs, h, e => by
    obtain ⟨v, r, rfl, h1, h2⟩ := isDs_cons.mp h
    cases d with
    | bl b =>
      unfold blsOf at e
      cases z : blsOf ds with
      | none => rw [z] at e; cases e
      | some cs =>
        rw [z] at e
        cases e
        rw [isD_bl.mp h1, blsOf_is h2 z]
        rfl
    | _ => cases e
def dAll (ds : List Dat) : M Dat := match ds with
  | [.lst xs] => M.opt (blsOf xs) >>= fun bs => pure (.bl (bs.all id))
  | _ => M.no
def dAny (ds : List Dat) : M Dat := match ds with
  | [.lst xs] => M.opt (blsOf xs) >>= fun bs => pure (.bl (bs.any id))
  | _ => M.no
theorem c_all : JCW Z (rAll Z.K) dAll := fun x d Er H p S Q hx s q => by
  unfold dAll at q
  split at q
  · obtain ⟨bs, e, q⟩ := q.opt
    obtain ⟨v, rfl, hv⟩ := isWs_one hx
    obtain ⟨a, vs, rfl, h1, h2⟩ := hv
    exact ⟨a, bs, rfl, by rw [← blsOf_is h2 e]; exact SqL.of h1.1, q.pure xE s _ (isD_bl.mpr rfl)⟩
  · exact (bad_no q).elim
theorem c_any : JCW Z (rAny Z.K) dAny := fun x d Er H p S Q hx s q => by
  unfold dAny at q
  split at q
  · obtain ⟨bs, e, q⟩ := q.opt
    obtain ⟨v, rfl, hv⟩ := isWs_one hx
    obtain ⟨a, vs, rfl, h1, h2⟩ := hv
    exact ⟨a, bs, rfl, by rw [← blsOf_is h2 e]; exact SqL.of h1.1, q.pure xE s _ (isD_bl.mpr rfl)⟩
  · exact (bad_no q).elim
def dTuple (ds : List Dat) : M Dat := match ds with
  | [.lst xs] => pure (.tup xs)
  | [.tup xs] => pure (.tup xs)
  | _ => M.no
theorem c_tuple : JCW Z (fun xs H Q => ∃ p ys, xs = [.ref p] ∧ ((SqL Z.K H p ys ∧ ∀ l, H l = none → Q (.ref l) (L2.upd H l (.tup ys))) ∨ (SqT Z.K H p ys ∧ Q (.ref p) H))) dTuple := fun x d Er H p S Q hx s q => by
  unfold dTuple at q
  split at q
  · obtain ⟨v, rfl, hv⟩ := isWs_one hx
    obtain ⟨a, vs, rfl, h1, h2⟩ := hv
    exact ⟨a, vs, rfl, .inl ⟨SqL.of h1.1, fun t nt => q.at_new s nt _ (new_tup s nt h2)⟩⟩
  · obtain ⟨v, rfl, hv⟩ := isWs_one hx
    obtain ⟨a, vs, rfl, h1, h2⟩ := isD_tup.mp hv
    exact ⟨a, vs, rfl, .inr ⟨h1.sq, q.pure xE s _ hv⟩⟩
  · exact (bad_no q).elim
def dList (ds : List Dat) : M Dat := match ds with
  | [.lst xs] => pure (.lst xs)
  | [.tup xs] => pure (.lst xs)
  | _ => M.no
theorem c_list : JCW Z (fun xs H Q => ∃ p ys, xs = [.ref p] ∧ (SqL Z.K H p ys ∨ SqT Z.K H p ys) ∧ ∀ l, H l = none → Q (.ref l) (L2.upd H l (.lst ys))) dList := fun x d Er H p S Q hx s q => by
  unfold dList at q
  split at q
  · obtain ⟨v, rfl, hv⟩ := isWs_one hx
    obtain ⟨a, vs, rfl, h1, h2⟩ := hv
    exact ⟨a, vs, rfl, .inl (SqL.of h1.1), fun t nt => q.at_new s nt _ (new_lst s nt h2)⟩
  · obtain ⟨v, rfl, hv⟩ := isWs_one hx
    obtain ⟨a, vs, rfl, h1, h2⟩ := isD_tup.mp hv
    exact ⟨a, vs, rfl, .inr h1.sq, fun t nt => q.at_new s nt _ (new_lst s nt h2)⟩
  · exact (bad_no q).elim
/-- isinstance of one built-in class -/
def tyN : Dat → Option String
  | .non => some "NoneType"
  | .bl _ => some "bool"
  | .int _ => some "int"
  | .str _ => some "str"
  | .tup _ => some "tuple"
  | .lst _ => some "list"
  | .dic _ _ => some "dict"
  | _ => none
def dIsi (ds : List Dat) : M Dat := match ds with
  | [d, .ty n] => M.opt ((tyN d).bind fun t => kitB t n) >>= fun b => pure (.bl b)
  | _ => M.no
theorem tyx_of {H : Hp} {p : Pl} {v : V} {d : Dat} {t : String} (h : IsW Z H p v d) (e : tyN d = some t) : TyX Z.K H v (.type t) := by
  cases d with
  | non => cases e; have h : IsD Z H p v .non := h; rw [isD_non.mp h]; exact .base .non
  | bl b => cases e; have h : IsD Z H p v (.bl b) := h; rw [isD_bl.mp h]; exact .base (.bl b)
  | int i => cases e; have h : IsD Z H p v (.int i) := h; rw [isD_int.mp h]; exact .base (.int i)
  | str x => cases e; have h : IsD Z H p v (.str x) := h; rw [isD_str.mp h]; exact .base (.str x)
  | tup ds =>
    cases e
    have h : IsD Z H p v (.tup ds) := h
    obtain ⟨a, vs, rfl, h1, h2⟩ := isD_tup.mp h
    rcases h1.sq (Z := Z) with (h1 | ⟨o, h1⟩) | ⟨o, its, n, h1, h2, _⟩
    · exact .base (.tup h1)
    · exact .fTuple h1
    · exact .kTuple h1 h2
  | lst ds =>
    cases e
    obtain ⟨a, vs, rfl, h1, h2⟩ := h
    exact .base (.lst h1.1)
  | dic ks ds =>
    cases e
    obtain ⟨a, vs, rfl, h1, _⟩ := h
    exact .base (.dK h1.1)
  | _ => cases e
theorem c_isi : JCW Z (rIsi Z.K) dIsi := fun x d Er H p S Q hx s q => by
  unfold dIsi at q
  split at q
  · rename_i d n
    obtain ⟨b, e, q⟩ := q.opt
    cases et : tyN d with
    | none => rw [et] at e; cases e
    | some t =>
      rw [et] at e
      have e : kitB t n = some b := e
      obtain ⟨v, r, rfl, h1, h2⟩ := hx
      obtain ⟨w, rfl, hw⟩ := isDs_one h2
      rw [isD_ty.mp hw]
      exact ⟨v, .ty n, _, _, b, rfl, .ty n, tyx_of h1 et, kit_ty e, q.pure xE s _ (isD_bl.mpr rfl)⟩
  · exact (bad_no q).elim
/-- repr -/
def okShow (y : PyData) : Bool := y.showable && !y.hasDict && decide (y.depth ≤ 64) && decide (y.shown.length ≤ sizeLine) && (match y with | .int i => decide (i.natAbs.log2 < 1920) | _ => true)
def dRepr (ds : List Dat) : M Dat := match ds with
  | [d] => M.opt (toPy d) >>= fun y => M.need (okShow y) >>= fun _ => pure (.str y.shown)
  | _ => M.no
theorem c_repr : JCW Z (Zg.rReprD Z.K) dRepr := fun x d Er H p S Q hx s q => by
  unfold dRepr at q
  split at q
  · obtain ⟨y, e, q⟩ := q.opt
    obtain ⟨c, q⟩ := q.need
    obtain ⟨v, rfl, hv⟩ := isWs_one hx
    unfold okShow at c
    simp only [Bool.and_eq_true, decide_eq_true_eq, Bool.not_eq_true'] at c
    refine ⟨v, y, rfl, hv.dp e, c.1.1.1.1, c.1.1.1.2, c.1.1.2, c.1.2, fun i z => ?_, q.pure xE s _ (isD_str.mpr rfl)⟩
    subst z
    have hd := hv.dp e
    cases hd
    have c2 := c.2
    simp only [decide_eq_true_eq] at c2
    exact c2
  · exact (bad_no q).elim
def dStr (ds : List Dat) : M Dat := match ds with
  | [.int i] => M.need (decide (i.natAbs.log2 < 1920)) >>= fun _ => pure (.str (toString i))
  | _ => M.no
theorem c_str : JC Z (IsDs Z) (IsD Z) (fun xs H Q => ∃ i, xs = [.int i] ∧ i.natAbs.log2 < 1920 ∧ Q (.str (toString i)) H) dStr := fun x d Er H p S Q hx s q => by
  unfold dStr at q
  split at q
  · obtain ⟨c, q⟩ := q.need
    obtain ⟨v, rfl, h1⟩ := isDs_one hx
    exact ⟨_, by rw [isD_int.mp h1], of_decide_eq_true c, q.pure xE s _ (isD_str.mpr rfl)⟩
  · exact (bad_no q).elim
/-- no-argument methods of a text that tell a truth -/
def dM0 (f : Str → Bool) (d : Dat) : M Dat := match d with
  | .str x => pure (.bl (f x))
  | _ => M.no
end
end Zd

namespace Zd
open PySem PySem.Spec PyProof.Rows L2

/-! ### a def's body, its calls -/
/-- what is raised: an error of the class c, its fields ns with the values ds -/
def ErOf (Z : Cz) (E : XK) : ErW := fun c fs _ H α γ => ∀ ns ds, fs = [.obj c ns ds] → ∀ (d : Addr) (H' : Hp) (vs : List V), H d = none → Same H H' → H' d = some (.xd (ns.zip vs)) → ns.length = vs.length → IsDs Z H' ⟨α, [], γ⟩ vs ds → E (.ref (Z.κ c)) (some d) H'
def spD (Z : Cz) (n : Nat) (F : List Dat → M Dat) : Sp := fun vs H Q E => vs.length = n ∧ ∃ (p : Pl) (ds : List Dat) (S : List Dat), p.ω = [] ∧ IsDs Z H p vs ds ∧ IsS Z H p S ∧
  Post Z (ErOf Z E) ExtE (F ds S) H p (fun d _ H' p' => ∀ v, IsD Z H' p' v d → Q v H')
def startE (N : Nat) (ds : List Dat) : Env := ds.map some ++ List.replicate (N - ds.length) none
def outF : Flow → M Dat
  | .rt d => pure d
  | .nx _ => pure .non
  | _ => M.no
def runD (N : Nat) (b : Env → M Flow) (ds : List Dat) : M Dat := b (startE N ds) >>= outF
section
variable {Z : Cz} {Er : ErW} {O : List Nat} {te ta tb : TE} {ts : TS} {tl : TA} {m m1 m2 : Env → M Dat} {ml : Env → M (List Dat)} {ms : Env → M Flow}
theorem IsDs.start {H : Hp} {p : Pl} : ∀ {ds : List Dat} {vs : List V} {i : Nat} {d : Dat} {k l : Nat}, IsDs Z H p vs ds → (ds.map some ++ List.replicate k none)[i]? = some (some d) → i < ds.length ∧ ∃ v, (vs.map some ++ List.replicate l none)[i]? = some (some v) ∧ IsD Z H p v d := by
  intro ds vs i d k l h e
  have hl := h.len
  by_cases c : i < ds.length
  · rw [List.getElem?_append_left (by rw [List.length_map]; exact c), List.getElem?_map] at e
    cases q : ds[i]? with
    | none => rw [q] at e; cases e
    | some x =>
      rw [q] at e
      cases e
      obtain ⟨v, h1, h2⟩ := h.get q
      refine ⟨c, v, ?_, h2⟩
      rw [List.getElem?_append_left (by rw [List.length_map, hl]; exact c), List.getElem?_map, h1]
      rfl
  · rw [List.getElem?_append_right (by rw [List.length_map]; omega)] at e
    rw [List.getElem?_replicate] at e
    split at e <;> cases e
theorem isE_start {H : Hp} {p : Pl} {N : List Str} {ds : List Dat} {vs : List V} (h : IsDs Z H p vs ds) (hO : ∀ i ∈ O, ds.length ≤ i) : IsE Z O H p (L2.start N vs) (startE N.length ds) := by
  have hl := h.len
  refine ⟨?_, fun i d _ q => (h.start q).2, fun i d oi q => ?_, fun i j a oi oj ne hi hj q => ?_⟩
  · unfold L2.start startE
    rw [List.length_append, List.length_append, List.length_map, List.length_map, List.length_replicate, List.length_replicate, hl]
  · have z := (IsDs.start (l := 0) h q).1
    have := hO i oi
    omega
  · obtain ⟨d, hi⟩ := hi
    have z := (IsDs.start (l := 0) h hi).1
    have := hO i oi
    omega
theorem IsW.exit {H : Hp} {p : Pl} {S : List Dat} (s : IsS Z H p S) {v : V} {d : Dat} (h : IsW Z H p v d) : IsD Z H ⟨p.α, [], p.γ⟩ v d := by
  have l2 : ∀ b, (⟨p.α, [], p.γ⟩ : Pl).has b → p.has b := fun b h => h.imp id fun h => .inr (h.resolve_left List.not_mem_nil)
  have k : ∀ (ds : List Dat) {vs : List V}, IsDs Z H p vs ds → IsDs Z H ⟨p.α, [], p.γ⟩ vs ds := fun ds _ h => IsDs.less (p := p) (p' := ⟨p.α, [], p.γ⟩) rfl l2 _ h
  have nh : ∀ {a : Addr}, a ∉ p.α → a ∉ p.γ → ¬ (⟨p.α, [], p.γ⟩ : Pl).has a := fun h1 h2 h => h.elim h1 fun h => h.elim List.not_mem_nil h2
  cases d with
  | lst ds => obtain ⟨a, vs, rfl, ⟨h1, n1, n2⟩, h2⟩ := h; exact isD_lst.mpr ⟨a, vs, rfl, ⟨h1, nh n1 n2⟩, k _ h2⟩
  | dic ks ds => obtain ⟨a, vs, rfl, ⟨h1, n1, n2⟩, hl, h2⟩ := h; exact isD_dic.mpr ⟨a, vs, rfl, ⟨h1, nh n1 n2⟩, hl, k _ h2⟩
  | obj c fs ds => obtain ⟨a, vs, rfl, ⟨h1, n1, n2⟩, hl, h2⟩ := h; exact isD_obj.mpr ⟨a, vs, rfl, ⟨h1, nh n1 n2⟩, hl, k _ h2⟩
  | non => exact IsD.less (p := p) (p' := ⟨p.α, [], p.γ⟩) rfl l2 _ h
  | bl b => exact IsD.less (p := p) (p' := ⟨p.α, [], p.γ⟩) rfl l2 _ h
  | int i => exact IsD.less (p := p) (p' := ⟨p.α, [], p.γ⟩) rfl l2 _ h
  | str x => exact IsD.less (p := p) (p' := ⟨p.α, [], p.γ⟩) rfl l2 _ h
  | tup ds => exact IsD.less (p := p) (p' := ⟨p.α, [], p.γ⟩) rfl l2 _ h
  | loc n => exact IsD.less (p := p) (p' := ⟨p.α, [], p.γ⟩) rfl l2 _ h
  | ty n => exact IsD.less (p := p) (p' := ⟨p.α, [], p.γ⟩) rfl l2 _ h
  | cls n => exact IsD.less (p := p) (p' := ⟨p.α, [], p.γ⟩) rfl l2 _ h
  | scr n => exact IsD.less (p := p) (p' := ⟨p.α, [], p.γ⟩) rfl l2 _ h
/-- from the entry (H0, p0) to a frame's end -/
theorem Post.exit {α : Type} {o : Out α} {H0 H : Hp} {p0 p : Pl} {C : α → List Dat → Hp → Pl → Prop} (q : Post Z Er ExtE o H0 p0 C) (h0 : p0.ω = []) (e0 : Ext H0 p0 H p) : Post Z Er Ext o H p (fun a S' H' p' => C a S' H' ⟨p'.α, [], p'.γ⟩) := by
  have key : ∀ H' p' S', Ext H p H' p' → IsS Z H' p' S' → ExtE H0 p0 H' ⟨p'.α, [], p'.γ⟩ ∧ IsS Z H' ⟨p'.α, [], p'.γ⟩ S' := fun H' p' S' e s => by
    have e2 := e0.trans e
    refine ⟨⟨e2.α, h0.symm, e2.γ, fun a o h n => e2.k a o h n (by rw [h0]; exact List.not_mem_nil), e2.t⟩, s.less fun a h => absurd h List.not_mem_nil⟩
  unfold Post at q ⊢
  cases o with
  | ok a S2 => exact fun H' p' e s => q H' ⟨p'.α, [], p'.γ⟩ (key H' p' S2 e s).1 (key H' p' S2 e s).2
  | er a b S2 => exact fun H' p' e s => q H' ⟨p'.α, [], p'.γ⟩ (key H' p' S2 e s).1 (key H' p' S2 e s).2
  | bad => exact q
/-- THE RULE: a body's reading from what it does with trees -/
theorem ok_body {N : List Str} {n : Nat} {vs : List V} {H : Hp} {Q : VK} {E : XK} (hj : JS Z (ErOf Z E) O ts ms) (hO : ∀ i ∈ O, n ≤ i) (h : spD Z n (runD N.length ms) vs H Q E) : ts { nx := fun _ H' => Q .non H', rt := Q } (L2.start N vs) H := by
  obtain ⟨hl, p, ds, S, h0, hd, hS, q⟩ := h
  refine hj (L2.start N vs) H p (startE N.length ds) S _ (isE_start hd fun i oi => by rw [← hd.len, hl]; exact hO i oi) hS ?_
  have q2 := (q.exit h0 Ext.refl).bnd xS
  refine q2.mono fun f S' H' p' e s q3 => ?_
  cases f with
  | rt d => exact fun v hv => Post.pure xS q3 s v (hv.exit s)
  | nx ρ => exact fun σ hσ => Post.pure xS q3 s .non (isD_non.mpr rfl)
  | bk ρ => exact (bad_no (S := S') q3).elim
  | ct ρ => exact (bad_no (S := S') q3).elim
/-- what is raised is not spoken of -/
def calm {α : Type} (m : M α) : M α := fun S => match m S with
  | .ok a S' => .ok a S'
  | _ => .bad
theorem Post.never {α : Type} {o : Out α} {H : Hp} {p : Pl} {X : XR} {C : α → List Dat → Hp → Pl → Prop} (q : Post Z (fun _ _ _ _ _ _ => False) X o H p C) (Er' : ErW) : Post Z Er' X o H p C := by
  unfold Post at q ⊢
  cases o with
  | ok a S' => exact q
  | er c fs S' => exact fun H' p' e s => (q H' p' e s).elim
  | bad => exact q
theorem Post.calm {α : Type} {m : M α} {S : List Dat} {H : Hp} {p : Pl} {X : XR} {C : α → List Dat → Hp → Pl → Prop} (q : Post Z Er X (Zd.calm m S) H p C) (Er' : ErW) : Post Z Er' X (m S) H p C := by
  unfold Zd.calm at q
  cases z : m S with
  | ok a S' => rw [z] at q; exact q
  | er c fs S' => rw [z] at q; exact q.elim
  | bad => rw [z] at q; exact q.elim
def xCall (F : List Dat → M Dat) (l : Env → M (List Dat)) (ρ : Env) : M Dat := l ρ >>= fun ds => calm (F ds)
/-- the callee may not touch the caller's own places -/
def Pl.shut (p : Pl) : Pl := ⟨p.α, [], p.γ ++ p.ω⟩
theorem shut_has {p : Pl} {a : Addr} : p.shut.has a ↔ p.has a := by
  unfold Pl.shut Pl.has
  constructor
  · rintro (h | h | h)
    · exact .inl h
    · exact absurd h List.not_mem_nil
    · exact .inr ((List.mem_append.mp h).symm)
  · rintro (h | h | h)
    · exact .inl h
    · exact .inr (.inr (List.mem_append_right _ h))
    · exact .inr (.inr (List.mem_append_left _ h))
theorem IsS.shut {H : Hp} {p : Pl} {S : List Dat} (s : IsS Z H p S) : IsS Z H p.shut S :=
  ⟨s.len, s.nd, fun a h => absurd h List.not_mem_nil, fun a h => (List.mem_append.mp h).elim (s.dg a) fun h => (s.dj a h).1, fun a h => s.wt a (h.elim (fun h => absurd h List.not_mem_nil) fun h => (List.mem_append.mp h).symm),
    fun n a d h1 h2 => IsTop.less (p := p) (p' := p.shut) rfl (fun a h => shut_has.mp h) (s.at_ n a d h1 h2)⟩
theorem Post.shut {α : Type} {o : Out α} {H : Hp} {p : Pl} {C : α → List Dat → Hp → Pl → Prop} (hS : ∀ a ∈ p.ω, a ∉ p.γ) (nd : ∀ a ∈ p.ω, H a ≠ none) (q : Post Z Er ExtE o H p C) (hEr : ∀ c fs S H α γ, Er c fs S H α γ → False) :
    Post Z Er ExtE o H p.shut (fun a S' H' p' => C a S' H' ⟨p'.α, p.ω, p.γ⟩) := by
  have key : ∀ H' p' S', ExtE H p.shut H' p' → IsS Z H' p' S' → ExtE H p H' ⟨p'.α, p.ω, p.γ⟩ ∧ IsS Z H' ⟨p'.α, p.ω, p.γ⟩ S' := fun H' p' S' e s => by
    have eg : p'.γ = p.γ ++ p.ω := e.γ
    have ew : p'.ω = [] := e.ω
    refine ⟨⟨e.α, rfl, rfl, e.k, e.t⟩, ⟨s.len, s.nd, fun a h => ⟨s.dg a (by rw [eg]; exact List.mem_append_right _ h), hS a h⟩, fun a h => s.dg a (by rw [eg]; exact List.mem_append_left _ h), fun a h => s.wt a (.inr (by rw [eg]; exact h.elim (List.mem_append_right _) (List.mem_append_left _))), fun n a d h1 h2 => IsTop.less (p := p') (p' := ⟨p'.α, p.ω, p.γ⟩) rfl (fun b hb => ?_) (s.at_ n a d h1 h2)⟩⟩
    rcases hb with hb | hb | hb
    · exact .inl hb
    · exact .inr (.inr (by rw [eg]; exact List.mem_append_right _ hb))
    · exact .inr (.inr (by rw [eg]; exact List.mem_append_left _ hb))
  unfold Post at q ⊢
  cases o with
  | ok a S2 => exact fun H' p' e s => q H' ⟨p'.α, p.ω, p.γ⟩ (key H' p' S2 e s).1 (key H' p' S2 e s).2
  | er a b S2 => exact fun H' p' e s => (hEr _ _ _ _ _ _ (q H' ⟨p'.α, p.ω, p.γ⟩ (key H' p' S2 e s).1 (key H' p' S2 e s).2)).elim
  | bad => exact q
theorem IsDs.shut {H : Hp} {p : Pl} {vs : List V} {ds : List Dat} (h : IsDs Z H p vs ds) : IsDs Z H p.shut vs ds := IsDs.less (p := p) (p' := p.shut) rfl (fun a h => shut_has.mp h) _ h
theorem IsD.unshut {H : Hp} {p p' : Pl} (eg : p'.γ = p.γ ++ p.ω) (ew : p'.ω = []) {v : V} {d : Dat} (h : IsD Z H p' v d) : IsD Z H ⟨p'.α, p.ω, p.γ⟩ v d := IsD.less (p := p') (p' := ⟨p'.α, p.ω, p.γ⟩) rfl (fun b hb => by
    rcases hb with hb | hb | hb
    · exact .inl hb
    · exact .inr (.inr (by rw [eg]; exact List.mem_append_right _ hb))
    · exact .inr (.inr (by rw [eg]; exact List.mem_append_left _ hb))) _ h
/-- what a call asks of its promise -/
theorem call_sp {F : List Dat → M Dat} {n : Nat} {H : Hp} {p : Pl} {S : List Dat} {vs : List V} {ds : List Dat} {Q : VK} {E : XK} (hn : vs.length = n) (hd : IsDs Z H p vs ds) (hS : IsS Z H p S) (q : Post Z Er ExtE (calm (F ds) S) H p (fun d _ H' p' => ∀ v, IsD Z H' p' v d → Q v H')) : spD Z n F vs H Q E := by
  refine ⟨hn, p.shut, ds, S, rfl, hd.shut, hS.shut, ?_⟩
  have z := (q.calm (fun _ _ _ _ _ _ => False)).shut (fun a h => (hS.dj a h).2) (fun a h => hS.wt a (.inl h)) (fun _ _ _ _ _ _ h => h)
  exact (z.mono fun d S' H' p' e s k v hv => k v (hv.unshut e.γ e.ω)).never (ErOf Z E)
theorem j_call {F : List Dat → M Dat} {n : Nat} {E : XK} (hl : JA Z Er O tl ml) (hn : ∀ ρ S ds S', ml ρ S = .ok ds S' → ds.length = n) : JD Z Er O (tCall (spD Z n F) [] E tl) (xCall F ml) := fun σ H p ρ S Q hE hS q => by
  refine hl σ H p ρ S _ hE hS ?_
  have q2 := q.bnd xE
  unfold Post at q2 ⊢
  cases z : ml ρ S with
  | ok ds S1 =>
    rw [z] at q2
    intro H1 p1 e1 s1 vs hv
    have hlen := hn ρ S ds S1 z
    show spD Z n F (vs ++ []) H1 Q E
    rw [List.append_nil]
    exact call_sp (hv.len.trans hlen) hv s1 (q2 H1 p1 e1 s1)
  | er c fs S1 => rw [z] at q2; exact q2
  | bad => rw [z] at q2; exact q2
theorem len_nil {ρ : Env} {S ds S' : List Dat} (h : xNil ρ S = .ok ds S') : ds.length = 0 := by cases h; rfl
theorem len_cons {a : Env → M Dat} {l : Env → M (List Dat)} {n : Nat} (hl : ∀ ρ S ds S', l ρ S = .ok ds S' → ds.length = n) : ∀ ρ S ds S', xCons a l ρ S = .ok ds S' → ds.length = n + 1 := fun ρ S ds S' h => by
  unfold xCons at h
  rw [m_bind] at h
  cases z : a ρ S with
  | ok x S1 =>
    rw [z] at h
    simp only [m_bind] at h
    cases z2 : l ρ S1 with
    | ok xs S3 =>
      rw [z2] at h
      cases h
      exact congrArg (· + 1) (hl ρ S1 xs _ z2)
    | er c fs S2 => rw [z2] at h; cases h
    | bad => rw [z2] at h; cases h
  | er c fs S1 => rw [z] at h; cases h
  | bad => rw [z] at h; cases h

/-! ### fields, own slots, instances -/
def lkD (f : Str) : List Str → List Dat → Option Dat
  | g :: gs, d :: ds => if f == g then some d else lkD f gs ds
  | _, _ => none
def putN (f : Str) : List Str → List Str
  | [] => [f]
  | g :: gs => if g = f then g :: gs else g :: putN f gs
def putV (f : Str) (x : Dat) : List Str → List Dat → List Dat
  | [], _ => [x]
  | g :: gs, d :: ds => if g = f then x :: ds else d :: putV f x gs ds
  | _ :: _, [] => []
theorem lk_rel {H : Hp} {p : Pl} {f : Str} : ∀ {gs : List Str} {ds : List Dat} {vs : List V} {d : Dat}, IsDs Z H p vs ds → lkD f gs ds = some d → ∃ v, (gs.zip vs).lookup f = some v ∧ IsD Z H p v d
  | [], ds, _, d, _, e => by cases ds <;> cases e
  | g :: gs, [], _, d, h, e => by cases e
  | g :: gs, c :: ds, _, d, h, e => by
    obtain ⟨v, r, rfl, h1, h2⟩ := isDs_cons.mp h
    unfold lkD at e
    rw [List.zip_cons_cons, List.lookup_cons]
    cases q : f == g with
    | true =>
      rw [q, if_pos rfl] at e
      cases e
      exact ⟨v, rfl, h1⟩
    | false =>
      rw [q] at e
      exact lk_rel h2 e
theorem put_rel {H : Hp} {p : Pl} {f : Str} {x : Dat} {y : V} (hx : IsD Z H p y x) : ∀ {gs : List Str} {ds : List Dat} {vs : List V}, gs.length = vs.length → IsDs Z H p vs ds → ∃ ws, putF f y (gs.zip vs) = (putN f gs).zip ws ∧ (putN f gs).length = ws.length ∧ IsDs Z H p ws (putV f x gs ds)
  | [], ds, vs, hl, h => by
    have e : vs = [] := List.length_eq_zero_iff.mp hl.symm
    subst e
    exact ⟨[y], rfl, rfl, .one hx⟩
  | g :: gs, [], vs, hl, h => by rw [isDs_nil.mp h] at hl; cases hl
  | g :: gs, c :: ds, _, hl, h => by
    obtain ⟨v, r, rfl, h1, h2⟩ := isDs_cons.mp h
    unfold putN putV
    rw [List.zip_cons_cons]
    unfold putF
    by_cases c : g = f
    · rw [if_pos c, if_pos c, if_pos c]
      exact ⟨y :: r, rfl, hl, isDs_cons.mpr ⟨y, r, rfl, hx, h2⟩⟩
    · rw [if_neg c, if_neg c, if_neg c]
      obtain ⟨ws, e1, e2, e3⟩ := put_rel (f := f) hx (gs := gs) (ds := ds) (vs := r) (Nat.succ.inj hl) h2
      exact ⟨v :: ws, by rw [List.zip_cons_cons, e1], by rw [List.length_cons, List.length_cons, e2], isDs_cons.mpr ⟨v, ws, rfl, h1, e3⟩⟩
/-- the attributes of the class c -/
structure ClsT (Z : Cz) (c : String) (fs : List Str) : Prop where
  cl : Cls Z.K (Z.κ c)
  no : ∀ f ∈ fs, NoAttr Z.K (Z.κ c) f
def dFld (c : String) (f : Str) (d : Dat) : M Dat := match d with
  | .obj c' fs ds => M.need (decide (c' = c)) >>= fun _ => M.opt (lkD f fs ds)
  | _ => M.no
theorem j_fld {c : String} {f : Str} {fs : List Str} (T : ClsT Z c fs) (hf : f ∈ fs) (h : JW Z Er O ta m) : JD Z Er O (tFld Z.K ta f) (xUn (dFld c f) m) := fun σ H p ρ S Q hE hS q =>
  h σ H p ρ S _ hE hS ((q.bnd xE).mono fun d S1 H1 p1 e1 s1 q1 v hv => by
    unfold dFld at q1
    split at q1
    · rename_i c' gs ds
      obtain ⟨ec, q2⟩ := Post.need q1
      clear q1
      have ec := of_decide_eq_true ec
      subst ec
      obtain ⟨x, ex, k⟩ := opt_pure xE q2 s1
      obtain ⟨a, vs, rfl, h1, hl, h2⟩ := hv
      obtain ⟨dx, ha⟩ := h1.1
      obtain ⟨w, e1, e2⟩ := lk_rel h2 ex
      exact ⟨a, _, dx, _, w, rfl, ha, T.cl, T.no f hf, e1, k w e2⟩
    · exact (bad_no (S := S1) q1).elim)
/-- an own slot's object is written -/
theorem own_put {H : Hp} {p : Pl} {σ : L2.St} {ρ : Env} {i : Nat} {a : Addr} {d d' : Dat} {o : HO} (hE : IsE Z O H p σ ρ) (oi : i ∈ O) (hρ : ρ[i]? = some (some d)) (hσ : σ[i]? = some (some (.ref a))) (ha : a ∈ p.ω)
    (ht : IsTop Z (L2.upd H a o) p a d') : IsE Z O (L2.upd H a o) p σ (ρ.set i (some d')) := by
  have e : Ext H p (L2.upd H a o) p := ext_put ha
  have lt := (List.getElem?_eq_some_iff.mp hρ).1
  have step : ∀ (j : Nat) (x : Dat), (ρ.set i (some d'))[j]? = some (some x) → (j = i ∧ x = d') ∨ (j ≠ i ∧ ρ[j]? = some (some x)) := fun j x q => by
    by_cases c : i = j
    · subst c
      rw [List.getElem?_set_self lt] at q
      cases q
      exact .inl ⟨rfl, rfl⟩
    · rw [List.getElem?_set_ne c] at q
      exact .inr ⟨fun z => c z.symm, q⟩
  have has : ∀ j : Nat, (∃ x, (ρ.set i (some d'))[j]? = some (some x)) → ∃ x, ρ[j]? = some (some x) := fun j ⟨x, q⟩ => by
    rcases step j x q with ⟨rfl, _⟩ | ⟨_, q⟩
    · exact ⟨d, hρ⟩
    · exact ⟨x, q⟩
  refine ⟨by rw [List.length_set]; exact hE.len, fun j x nj q => ?_, fun j x oj q => ?_, fun j k b oj ok ne hj hk => hE.dj j k b oj ok ne (has j hj) (has k hk)⟩
  · rcases step j x q with ⟨rfl, _⟩ | ⟨_, q⟩
    · exact absurd oi nj
    · obtain ⟨v, h1, h2⟩ := hE.get j x nj q
      exact ⟨v, h1, h2.ext e⟩
  · rcases step j x q with ⟨rfl, rfl⟩ | ⟨ne, q⟩
    · exact ⟨a, hσ, ha, ht⟩
    · obtain ⟨b, h1, h2, h3⟩ := hE.own j x oj q
      refine ⟨b, h1, h2, h3.ext e fun u z => ?_⟩
      rw [upd_ne fun c => ?_]
      · exact z
      · subst c
        exact hE.dj j i b oj oi ne ⟨x, q⟩ ⟨d, hρ⟩ h1 hσ
/-- x = a new list | dict, the slot is own -/
def sAsgO (i : Nat) (a : Env → M Dat) (ρ : Env) : M Flow := a ρ >>= fun d => pure (.nx (ρ.set i (some d)))
theorem js_asgO {i : Nat} (oi : i ∈ O) (h : JF Z Er O ta m) : JS Z Er O (tAsg ta (gName i)) (sAsgO i m) := fun σ H p ρ S D hE hS q =>
  h σ H p ρ S _ hE hS ((q.bndK.of xS).mono fun d S1 H1 p1 e1 s1 q1 a na na1 nh hs ht => by
    show D.nx (σ.set i (some (.ref a))) H1
    have eP : ExtC H p H1 ⟨p1.α, p1.ω ++ [a], p1.γ⟩ := by
      have z := ExtC.plus (p := p) (α' := p1.α) ⟨e1.α, rfl, rfl, e1.k, e1.t⟩ na
      rw [← e1.ω, ← e1.γ] at z
      exact z
    refine q1 H1 _ eP.s hs _ ?_
    have mA : a ∈ p1.ω ++ [a] := List.mem_append_right _ (List.mem_singleton.mpr rfl)
    have ltO : ∀ x, ρ[i]? = some x → i < σ.length := fun x q => by rw [hE.len]; exact (List.getElem?_eq_some_iff.mp q).1
    have step : ∀ (j : Nat) (x : Dat), (ρ.set i (some d))[j]? = some (some x) → (j = i ∧ x = d ∧ i < σ.length) ∨ (j ≠ i ∧ ρ[j]? = some (some x)) := fun j x q => by
      by_cases c : i = j
      · subst c
        rw [List.getElem?_set_self'] at q
        cases z : ρ[i]? with
        | none => rw [z] at q; cases q
        | some w => rw [z] at q; cases q; exact .inl ⟨rfl, rfl, ltO w z⟩
      · rw [List.getElem?_set_ne c] at q
        exact .inr ⟨fun z => c z.symm, q⟩
    have old : ∀ (j : Nat) (x : Dat), j ∈ O → ρ[j]? = some (some x) → σ[j]? ≠ some (some (.ref a)) := fun j x oj q => by
      obtain ⟨b, h1, h2, h3⟩ := hE.own j x oj q
      rw [h1]
      intro c
      cases c
      exact hS.wt a (.inl h2) na
    refine ⟨by rw [List.length_set, List.length_set]; exact hE.len, fun j x nj q => ?_, fun j x oj q => ?_, fun j k b oj ok ne hj hk q => ?_⟩
    · rcases step j x q with ⟨rfl, _⟩ | ⟨ne, q⟩
      · exact absurd oi nj
      · obtain ⟨v, h1, h2⟩ := hE.get j x nj q
        rw [List.getElem?_set_ne fun z => ne z.symm]
        exact ⟨v, h1, h2.ext eP.s⟩
    · rcases step j x q with ⟨rfl, rfl, lt⟩ | ⟨ne, q⟩
      · rw [List.getElem?_set_self lt]
        exact ⟨a, rfl, mA, ht⟩
      · obtain ⟨b, h1, h2, h3⟩ := hE.own j x oj q
        rw [List.getElem?_set_ne fun z => ne z.symm]
        exact ⟨b, h1, List.mem_append_left _ (by rw [e1.ω]; exact h2), h3.ext eP.s fun u z => e1.k _ _ z (hS.dj b h2).1⟩
    · obtain ⟨x, hj⟩ := hj
      have hj0 := hj
      obtain ⟨y, hk⟩ := hk
      rcases step j x hj with ⟨rfl, _, lt⟩ | ⟨nj, hj⟩
      · rcases step k y hk with ⟨rfl, _⟩ | ⟨nk, hk⟩
        · exact absurd rfl ne
        · rw [List.getElem?_set_self lt] at q
          cases q
          rw [List.getElem?_set_ne fun z => nk z.symm]
          exact old k y ok hk
      · rw [List.getElem?_set_ne fun z => nj z.symm] at q
        rcases step k y hk with ⟨rfl, _, lt⟩ | ⟨nk, hk⟩
        · rw [List.getElem?_set_self lt]
          intro c
          cases c
          rcases step j x hj0 with ⟨z, _⟩ | ⟨_, hj1⟩
          · exact absurd z nj
          · exact old j x oj hj1 q
        · rw [List.getElem?_set_ne fun z => nk z.symm]
          exact hE.dj j k b oj ok ne ⟨x, hj⟩ ⟨y, hk⟩ q)
def objAt (ρ : Env) (i : Nat) : Option (String × List Str × List Dat) := match ρ[i]? with
  | some (some (.obj c fs ds)) => some (c, fs, ds)
  | _ => none
def lstAt (ρ : Env) (i : Nat) : Option (List Dat) := match ρ[i]? with
  | some (some (.lst ds)) => some ds
  | _ => none
def locAt (ρ : Env) (i : Nat) : Option Nat := match ρ[i]? with
  | some (some (.loc n)) => some n
  | _ => none
theorem objAt_is {ρ : Env} {i : Nat} {c : String} {fs : List Str} {ds : List Dat} (h : objAt ρ i = some (c, fs, ds)) : ρ[i]? = some (some (.obj c fs ds)) := by
  unfold objAt at h
  split at h
  · cases h; assumption
  · cases h
theorem lstAt_is {ρ : Env} {i : Nat} {ds : List Dat} (h : lstAt ρ i = some ds) : ρ[i]? = some (some (.lst ds)) := by
  unfold lstAt at h
  split at h
  · cases h; assumption
  · cases h
theorem locAt_is {ρ : Env} {i : Nat} {n : Nat} (h : locAt ρ i = some n) : ρ[i]? = some (some (.loc n)) := by
  unfold locAt at h
  split at h
  · cases h; assumption
  · cases h
def one {α : Type} : List α → Option α
  | [d] => some d
  | _ => none
theorem one_is {α : Type} {ds : List α} {d : α} (h : one ds = some d) : ds = [d] := by
  unfold one at h
  split at h
  · cases h; rfl
  · cases h
def dInt1 : Dat → Option Int
  | .int i => some i
  | _ => none
theorem dInt1_is {d : Dat} {i : Int} (h : dInt1 d = some i) : d = .int i := by
  cases d <;> first | (cases h; rfl) | cases h
/-- self.f = e, self the frame's own -/
def sSetF (c : String) (i : Nat) (f : Str) (a : Env → M Dat) (ρ : Env) : M Flow := a ρ >>= fun x => M.opt (objAt ρ i) >>= fun o => M.need (decide (o.1 = c) && decide (o.2.1.length < 1000)) >>= fun _ =>
  pure (.nx (ρ.set i (some (.obj o.1 (putN f o.2.1) (putV f x o.2.1 o.2.2)))))
theorem js_setF {c : String} {i : Nat} {f : Str} {fs : List Str} (T : ClsT Z c fs) (hf : f ∈ fs) (oi : i ∈ O) (h : JD Z Er O te m) : JS Z Er O (sFld Z.K (tVar i) te f) (sSetF c i f m) := fun σ H p ρ S D hE hS q =>
  h σ H p ρ S _ hE hS (q.bndE.mono fun d S1 H1 p1 e1 s1 q1 v hv => by
    have hE1 := hE.ext e1 hS
    obtain ⟨⟨c', gs, ds⟩, eo, q1⟩ := Post.opt q1
    have eρ := objAt_is eo
    obtain ⟨ec, q2⟩ := Post.need q1
    clear q1
    simp only [Bool.and_eq_true, decide_eq_true_eq] at ec
    obtain ⟨ec, few⟩ := ec
    subst ec
    obtain ⟨a, h1, h2, dx, vs, h3, hl, h4⟩ := hE1.own i _ oi eρ
    refine ⟨_, h1, a, _, dx, _, rfl, h3, T.cl, T.no f hf, by rw [List.length_zip, ← hl, Nat.min_self]; exact few, ?_⟩
    obtain ⟨ws, g1, g2, g3⟩ := put_rel (f := f) hv hl h4
    rw [g1]
    exact q2 _ _ (ext_put h2) (s1.put h2) _ (own_put hE1 oi eρ h1 h2 ⟨dx, ws, upd_same, g2, g3.ext (ext_put h2)⟩))
/-- x.append(e), x the frame's own -/
def sApp (i : Nat) (l : Env → M (List Dat)) (ρ : Env) : M Flow := M.opt (lstAt ρ i) >>= fun xs => l ρ >>= fun ds => M.opt (one ds) >>= fun d => M.need (decide (xs.length < 100000)) >>= fun _ => pure (.nx (ρ.set i (some (.lst (xs ++ [d])))))
theorem js_app {i : Nat} (oi : i ∈ O) (h : JA Z Er O tl ml) : JS Z Er O (tDrop (tBM Z.K "list" rAppend (tVar i) tl)) (sApp i ml) := fun σ H p ρ S D hE hS q => by
  obtain ⟨xs, el, q⟩ := Post.opt q
  have eρ := lstAt_is el
  obtain ⟨a, h1, h2, vs, h3, h4⟩ := hE.own i _ oi eρ
  refine ⟨_, h1, .inl ⟨rfl, _, SqL.of h3⟩, h σ H p ρ S _ hE hS (q.bndE.mono fun ds S1 H1 p1 e1 s1 q1 ws hws => ?_)⟩
  have hE1 := hE.ext e1 hS
  have h2' : a ∈ p1.ω := by rw [e1.ω]; exact h2
  obtain ⟨d, e1d, q1⟩ := Post.opt q1
  rw [one_is e1d] at hws
  obtain ⟨c, q2⟩ := Post.need q1
  have c := of_decide_eq_true c
  obtain ⟨v, rfl, hv⟩ := isDs_one hws
  have h3' := e1.k _ _ h3 (hS.dj a h2).1
  have sz := sizeLine_eq
  refine ⟨a, vs, v, rfl, rfl, h3', by rw [h4.len]; omega, ?_⟩
  exact q2 _ _ (ext_put h2') (s1.put h2') _ (own_put hE1 oi eρ h1 h2' ⟨vs ++ [v], upd_same, ((h4.ext e1.s).append (.one hv)).ext (ext_put h2')⟩)
/-- x.extend(e), x the frame's own -/
def sExt (i : Nat) (l : Env → M (List Dat)) (ρ : Env) : M Flow := M.opt (lstAt ρ i) >>= fun xs => l ρ >>= fun ds => M.opt (one ds) >>= fun d => M.opt (dLst d) >>= fun ys => M.need (decide (xs.length + ys.length ≤ 100000)) >>= fun _ => pure (.nx (ρ.set i (some (.lst (xs ++ ys)))))
theorem js_ext {i : Nat} (oi : i ∈ O) (h : JA Z Er O tl ml) : JS Z Er O (tDrop (tBM Z.K "list" rExtend (tVar i) tl)) (sExt i ml) := fun σ H p ρ S D hE hS q => by
  obtain ⟨xs, el, q⟩ := Post.opt q
  have eρ := lstAt_is el
  obtain ⟨a, h1, h2, vs, h3, h4⟩ := hE.own i _ oi eρ
  refine ⟨_, h1, .inl ⟨rfl, _, SqL.of h3⟩, h σ H p ρ S _ hE hS (q.bndE.mono fun ds S1 H1 p1 e1 s1 q1 ws hws => ?_)⟩
  have hE1 := hE.ext e1 hS
  have h2' : a ∈ p1.ω := by rw [e1.ω]; exact h2
  obtain ⟨d, e1d, q1⟩ := Post.opt q1
  rw [one_is e1d] at hws
  obtain ⟨ys, ey, q1⟩ := Post.opt q1
  rw [dLst_some ey] at hws
  obtain ⟨c, q2⟩ := Post.need q1
  have c := of_decide_eq_true c
  obtain ⟨v, rfl, hv⟩ := isDs_one hws
  obtain ⟨b, us, rfl, g1, g2⟩ := isD_lst.mp hv
  have h3' := e1.k _ _ h3 (hS.dj a h2).1
  refine ⟨a, b, vs, us, rfl, rfl, h3', g1.1, lim (by rw [h4.len, g2.len]; exact c), ?_⟩
  exact q2 _ _ (ext_put h2') (s1.put h2') _ (own_put hE1 oi eρ h1 h2' ⟨vs ++ us, upd_same, ((h4.ext e1.s).append g2).ext (ext_put h2')⟩)
/-! ### shared places -/
theorem loc_put {H : Hp} {p : Pl} {S : List Dat} (s : IsS Z H p S) {n : Nat} {a : Addr} {o : HO} {d : Dat} (ha : p.α[n]? = some a) (ht : IsTop Z (L2.upd H a o) p a d) : ExtE H p (L2.upd H a o) p ∧ IsS Z (L2.upd H a o) p (S.set n d) := by
  have ma : a ∈ p.α := List.mem_of_getElem? ha
  have e : ExtE H p (L2.upd H a o) p := ⟨⟨[], by simp⟩, rfl, rfl, fun b u h n => by rw [upd_ne fun z => n (by rw [z]; exact ma)]; exact h, fun b h => by
    by_cases c : b = a
    · rw [c, upd_same]; exact nofun
    · rw [upd_ne c]; exact h⟩
  refine ⟨e, ⟨by rw [List.length_set]; exact s.len, s.nd, s.dj, s.dg, fun b h => e.t b (s.wt b h), fun k b x h1 h2 => ?_⟩⟩
  by_cases c : n = k
  · subst c
    rw [ha] at h1
    cases h1
    rw [List.getElem?_set_self (by rw [← s.len]; exact (List.getElem?_eq_some_iff.mp ha).1)] at h2
    cases h2
    exact ht
  · rw [List.getElem?_set_ne c] at h2
    refine (s.at_ k b x h1 h2).ext e.s fun u z => ?_
    rw [upd_ne fun q => c ?_]
    · exact z
    · subst q
      have l1 := (List.getElem?_eq_some_iff.mp ha)
      have l2 := (List.getElem?_eq_some_iff.mp h1)
      obtain ⟨i1, g1⟩ := l1
      obtain ⟨i2, g2⟩ := l2
      exact (List.getElem_inj s.nd).mp (g1.trans g2.symm)
/-- x[i] = e, x a shared list in slot j -/
def setLo (n : Nat) (k : Int) (x : Dat) (ρ : Env) : M Flow := fun S => match S[n]? with
  | some (.lst xs) => match ixN xs.length k with
    | some q => .ok (.nx ρ) (S.set n (.lst (xs.set q x)))
    | none => .bad
  | _ => .bad
def sSetLo (j : Nat) (b a : Env → M Dat) (ρ : Env) : M Flow := a ρ >>= fun x => M.opt (locAt ρ j) >>= fun n => b ρ >>= fun i => M.opt (dInt1 i) >>= fun k => setLo n k x ρ
theorem js_setLo {j : Nat} (nj : j ∉ O) (hb : JD Z Er O tb m2) (ha : JD Z Er O ta m1) : JS Z Er O (tAsg ta (gSub (tVar j) tb rSetL)) (sSetLo j m2 m1) := fun σ H p ρ S D hE hS q =>
  ha σ H p ρ S _ hE hS (q.bndE.mono fun d S1 H1 p1 e1 s1 q1 v hv => by
    have hE1 := hE.ext e1 hS
    obtain ⟨n, eo, q1⟩ := Post.opt q1
    have eρ := locAt_is eo
    obtain ⟨u, h1, h2⟩ := hE1.get j _ nj eρ
    refine ⟨u, h1, ?_⟩
    refine hb σ H1 p1 ρ S1 _ hE1 s1 (q1.bndE.mono fun i S2 H2 p2 e2 s2 q2 w hw => ?_)
    obtain ⟨k, ek, q2⟩ := Post.opt q2
    rw [dInt1_is ek] at hw
    obtain ⟨a, rfl, hα⟩ := isD_loc.mp (h2.ext e2.s)
    cases eS : S2[n]? with
    | none => unfold setLo at q2; rw [eS] at q2; exact q2.elim
    | some dd =>
      cases dd with
      | lst xs =>
        cases ey : ixN xs.length k with
        | none => unfold setLo at q2; rw [eS] at q2; simp only [ey] at q2; exact q2.elim
        | some y =>
          have q3 : Post Z Er Ext (.ok (Flow.nx ρ) (S2.set n (.lst (xs.set y d)))) H2 p2 (fun f x H' p' => FlowOk Z O D f H' p') := by
            unfold setLo at q2; rw [eS] at q2; simp only [ey] at q2; exact q2
          obtain ⟨vs, g1, g2⟩ := s2.at_ n a _ hα eS
          refine ⟨a, vs, k, y, rfl, isD_int.mp hw, g1, by rw [g2.len]; exact ey, ?_⟩
          have ma : a ∈ p2.α := List.mem_of_getElem? hα
          have eX : Ext H2 p2 (L2.upd H2 a (.lst (vs.set y v))) p2 := ⟨⟨[], by simp⟩, ⟨[], by simp⟩, rfl, fun b u h n _ => by rw [upd_ne fun z => n (by rw [z]; exact ma)]; exact h, fun b h => by
              by_cases c : b = a
              · rw [c, upd_same]; exact nofun
              · rw [upd_ne c]; exact h⟩
          obtain ⟨e3, s3⟩ := loc_put (o := .lst (vs.set y v)) (d := .lst (xs.set y d)) s2 hα ⟨vs.set y v, upd_same, (g2.set y (hv.ext e2.s)).ext eX⟩
          exact q3 _ _ e3.s s3 σ ((hE1.ext e2 s1).ext e3 s2)
      | _ => unfold setLo at q2; rw [eS] at q2; exact q2.elim)
/-- a new list that is given back to be shared -/
def sRetLo (a : Env → M Dat) (ρ : Env) : M Flow := a ρ >>= fun d => fun S => .ok (.rt (.loc S.length)) (S ++ [d])
theorem js_retLo (h : JF Z Er O ta m) : JS Z Er O (tRet ta) (sRetLo m) := fun σ H p ρ S D hE hS q =>
  h σ H p ρ S _ hE hS ((q.bndK.of xS).mono fun d S1 H1 p1 e1 s1 q1 a na na1 nh hs ht => by
    have q2 : ∀ H' p', Ext H p H' p' → IsS Z H' p' (S1 ++ [d]) → FlowOk Z O D (.rt (.loc S1.length)) H' p' := q1
    have l2 : ∀ b, (⟨p1.α ++ [a], p1.ω, p1.γ⟩ : Pl).has b → (⟨p1.α, p1.ω ++ [a], p1.γ⟩ : Pl).has b := fun b h => by
      rcases h with h | h | h
      · rcases List.mem_append.mp h with h | h
        · exact .inl h
        · exact .inr (.inl (List.mem_append_right _ h))
      · exact .inr (.inl (List.mem_append_left _ h))
      · exact .inr (.inr h)
    have na1 : a ∉ p1.α := fun z => nh (.inl z)
    have ma : a ∈ p1.ω ++ [a] := List.mem_append_right _ (List.mem_singleton.mpr rfl)
    have hα : (p1.α ++ [a])[S1.length]? = some a := by rw [← hs.len]; simp
    refine q2 H1 ⟨p1.α ++ [a], p1.ω, p1.γ⟩ ⟨?_, ⟨[], by rw [List.append_nil]; exact e1.ω, by simp⟩, e1.γ, fun b u z n _ => e1.k b u z n, e1.t⟩ ⟨?_, ?_, fun b h => ⟨fun z => ?_, (hs.dj b (List.mem_append_left _ h)).2⟩, fun b h z => ?_, fun b h => hs.wt b (h.imp (List.mem_append_left _) id), fun n b x h1 h2 => ?_⟩ (.ref a) ?_
    · obtain ⟨β, g1, g2⟩ := e1.α
      refine ⟨β ++ [a], by rw [g1, List.append_assoc], fun b h => ?_⟩
      rcases List.mem_append.mp h with h | h
      · exact g2 b h
      · rw [List.mem_singleton.mp h]; exact na
    · rw [List.length_append, List.length_append, hs.len]; rfl
    · exact List.nodup_append.mpr ⟨hs.nd, by simp, fun b h c h2 e => na1 (by rw [← List.mem_singleton.mp h2, ← e]; exact h)⟩
    · rcases List.mem_append.mp z with z | z
      · exact (hs.dj b (List.mem_append_left _ h)).1 z
      · exact nh (.inr (.inl (by rw [← List.mem_singleton.mp z]; exact h)))
    · rcases List.mem_append.mp z with z | z
      · exact hs.dg b h z
      · exact nh (.inr (.inr (by rw [← List.mem_singleton.mp z]; exact h)))
    · have mv : ∀ (n : Nat) (x : Addr), p1.α[n]? = some x → (p1.α ++ [a])[n]? = some x := fun n x h => by
        rw [List.getElem?_append_left (List.getElem?_eq_some_iff.mp h).1]; exact h
      by_cases c : n < S1.length
      · rw [List.getElem?_append_left c] at h2
        rw [List.getElem?_append_left (by rw [hs.len]; exact c)] at h1
        exact IsTop.mv (p := ⟨p1.α, p1.ω ++ [a], p1.γ⟩) (p' := ⟨p1.α ++ [a], p1.ω, p1.γ⟩) mv l2 (hs.at_ n b x h1 h2)
      · have lt := (List.getElem?_eq_some_iff.mp h2).1
        rw [List.length_append, List.length_singleton] at lt
        have e : n = S1.length := by omega
        subst e
        rw [hα] at h1
        cases h1
        rw [List.getElem?_append_right (Nat.le_refl _), Nat.sub_self] at h2
        cases h2
        exact IsTop.mv (p := ⟨p1.α, p1.ω ++ [a], p1.γ⟩) (p' := ⟨p1.α ++ [a], p1.ω, p1.γ⟩) mv l2 ht
    · exact (isD_loc (Z := Z) (H := H1) (p := ⟨p1.α ++ [a], p1.ω, p1.γ⟩)).mpr ⟨a, rfl, hα⟩)
end
end Zd

namespace Zd
open PySem PySem.Spec PyProof.Rows L2
section
variable {Z : Cz} {Er : ErW} {O : List Nat} {te ta tb : TE} {ts : TS} {tl : TA} {m m1 m2 : Env → M Dat} {ml : Env → M (List Dat)} {ms : Env → M Flow}
/-! ### objects are shared places -/
theorem push_loc {H : Hp} {p : Pl} {S : List Dat} {x dx C : Addr} (s : IsS Z H p S) (nx : H x = none) (nd : H dx = none) (ne : dx ≠ x) (c : String) (hC : C = Z.κ c) :
    ExtE H p (L2.upd (L2.upd H dx (.own x)) x (.ins C dx [])) ⟨p.α ++ [x], p.ω, p.γ⟩ ∧ IsS Z (L2.upd (L2.upd H dx (.own x)) x (.ins C dx [])) ⟨p.α ++ [x], p.ω, p.γ⟩ (S ++ [.obj c [] []]) := by
  subst hC
  have hx := no_has s nx
  have k : ∀ a o, H a = some o → L2.upd (L2.upd H dx (.own x)) x (.ins (Z.κ c) dx []) a = some o := fun a o h => by
    rw [upd_ne (ne_of_none h nx), upd_ne (ne_of_none h nd)]; exact h
  have t : ∀ a, H a ≠ none → L2.upd (L2.upd H dx (.own x)) x (.ins (Z.κ c) dx []) a ≠ none := fun a h => by
    cases z : H a with
    | none => exact absurd z h
    | some o => rw [k a o z]; exact nofun
  have e : ExtE H p (L2.upd (L2.upd H dx (.own x)) x (.ins (Z.κ c) dx [])) ⟨p.α ++ [x], p.ω, p.γ⟩ := ⟨⟨[x], rfl, fun b h => by rw [List.mem_singleton.mp h]; exact nx⟩, rfl, rfl, fun a o h _ => k a o h, t⟩
  refine ⟨e, ⟨by rw [List.length_append, List.length_append, s.len]; rfl, List.nodup_append.mpr ⟨s.nd, by simp, fun b h c h2 e => hx (.inl (by rw [← List.mem_singleton.mp h2, ← e]; exact h))⟩, fun b h => ⟨fun z => ?_, (s.dj b h).2⟩, fun b h z => ?_, fun b h => t b (s.wt b h), fun n b d h1 h2 => ?_⟩⟩
  · rcases List.mem_append.mp z with z | z
    · exact (s.dj b h).1 z
    · exact hx (.inr (.inl (by rw [← List.mem_singleton.mp z]; exact h)))
  · rcases List.mem_append.mp z with z | z
    · exact s.dg b h z
    · exact hx (.inr (.inr (by rw [← List.mem_singleton.mp z]; exact h)))
  · by_cases q : n < S.length
    · rw [List.getElem?_append_left q] at h2
      have h1 : (p.α ++ [x])[n]? = some b := h1
      rw [List.getElem?_append_left (by rw [s.len]; exact q)] at h1
      exact (s.at_ n b d h1 h2).ext e.s fun o z => k b o z
    · have lt := (List.getElem?_eq_some_iff.mp h2).1
      rw [List.length_append, List.length_singleton] at lt
      have en : n = S.length := by omega
      subst en
      have h1 : (p.α ++ [x])[S.length]? = some b := h1
      rw [← s.len] at h1
      simp only [List.getElem?_append_right (Nat.le_refl _), Nat.sub_self] at h1 h2
      cases h1
      cases h2
      exact ⟨dx, [], upd_same, rfl, isDs_nil.mpr rfl⟩
def newObj (c : String) : M Dat := fun S => .ok (.loc S.length) (S ++ [.obj c [] []])
/-- C(..): __init__ at a new shared place -/
def mkNew (c : String) (F : List Dat → M Dat) (ds : List Dat) : M Dat := newObj c >>= fun o => calm (F (o :: ds)) >>= fun r => M.need (isNon r) >>= fun _ => pure o
theorem isNon_is {d : Dat} (h : isNon d = true) : d = .non := by cases d <;> first | rfl | cases h
theorem calm_bnd {α β : Type} {X : XR} (x : XOk X) {mm : M α} {f : α → M β} {S : List Dat} {H : Hp} {p : Pl} {C : β → List Dat → Hp → Pl → Prop} (q : Post Z Er X ((calm mm >>= f) S) H p C) : Post Z Er X (calm mm S) H p fun a S' H' p' => Post Z Er X (f a S') H' p' C := q.bnd x
theorem Post.okE {α : Type} {X : XR} {a : α} {S S' : List Dat} {H : Hp} {p : Pl} {C : α → List Dat → Hp → Pl → Prop} (q : Post Z Er X (Out.ok a S') H p C) {H' : Hp} {p' : Pl} (e : X H p H' p') (s : IsS Z H' p' S') : C a S' H' p' := q H' p' e s
theorem j_make {c : String} {F : List Dat → M Dat} {n : Nat} {E : XK} (hl : JA Z Er O tl ml) (hn : ∀ ρ S ds S', ml ρ S = .ok ds S' → ds.length = n) : JD Z Er O (tMake (Z.κ c) (spD Z (n + 1) F) [] E tl) (fun ρ => ml ρ >>= mkNew c F) := fun σ H p ρ S Q hE hS q => by
  refine hl σ H p ρ S _ hE hS ?_
  have q2 := q.bndK
  unfold Post at q2 ⊢
  cases z : ml ρ S with
  | ok ds S1 =>
    rw [z] at q2
    intro H1 p1 e1 s1 vs hv x dx nx nd ne
    have hlen := hn ρ S ds S1 z
    rw [List.append_nil]
    obtain ⟨e2, s2⟩ := push_loc s1 nx nd ne c rfl
    have q3 : Post Z Er ExtE (mkNew c F ds S1) H p _ := q2 H1 p1 e1 s1
    have q4 : Post Z Er ExtE ((calm (F (.loc S1.length :: ds)) >>= fun r => M.need (isNon r) >>= fun _ => pure (Dat.loc S1.length)) (S1 ++ [.obj c [] []])) H p _ := q3
    have q5 := (q4.up xE (e1.trans e2)).bnd xE
    have hx : IsD Z (L2.upd (L2.upd H1 dx (.own x)) x (.ins (Z.κ c) dx [])) ⟨p1.α ++ [x], p1.ω, p1.γ⟩ (.ref x) (.loc S1.length) := (isD_loc (Z := Z)).mpr ⟨x, rfl, by rw [← s1.len]; simp⟩
    refine call_sp (S := S1 ++ [.obj c [] []]) (ds := .loc S1.length :: ds) (by rw [List.length_cons, hv.len, hlen]) (isDs_cons.mpr ⟨.ref x, vs, rfl, hx, hv.ext e2.s⟩) s2 (q5.mono fun d S3 H3 p3 e3 s3 q6 v hv3 => ?_)
    obtain ⟨cn, q7⟩ := q6.need
    rw [isNon_is cn] at hv3
    exact ⟨isD_non.mp hv3, q7.pure xE s3 (.ref x) (hx.ext e3.s)⟩
  | er c fs S1 => rw [z] at q2; exact q2
  | bad => rw [z] at q2; exact q2
def getO (S : List Dat) (n : Nat) : Option (String × List Str × List Dat) := match S[n]? with
  | some (.obj c fs ds) => some (c, fs, ds)
  | _ => none
theorem getO_is {S : List Dat} {n : Nat} {c : String} {fs : List Str} {ds : List Dat} (h : getO S n = some (c, fs, ds)) : S[n]? = some (.obj c fs ds) := by
  unfold getO at h
  split at h
  · cases h; assumption
  · cases h
/-- x.f, x an instance of the class c -/
def dFldLo (c : String) (f : Str) (d : Dat) : M Dat := match d with
  | .loc n => fun S => (M.opt (getO S n) >>= fun o => M.need (decide (o.1 = c)) >>= fun _ => M.opt (lkD f o.2.1 o.2.2)) S
  | _ => M.no
theorem j_fldLo {c : String} {f : Str} {fs : List Str} (T : ClsT Z c fs) (hf : f ∈ fs) (h : JD Z Er O ta m) : JD Z Er O (tFld Z.K ta f) (xUn (dFldLo c f) m) := fun σ H p ρ S Q hE hS q =>
  h σ H p ρ S _ hE hS ((q.bnd xE).mono fun d S1 H1 p1 e1 s1 q1 v hv => by
    cases d with
    | loc n =>
      have q2 : Post Z Er ExtE ((M.opt (getO S1 n) >>= fun o => M.need (decide (o.1 = c)) >>= fun _ => M.opt (lkD f o.2.1 o.2.2)) S1) H1 p1 _ := q1
      obtain ⟨⟨c', gs, ds⟩, eo, q2⟩ := q2.opt
      obtain ⟨ec, q3⟩ := Post.need q2
      have ec := of_decide_eq_true ec
      have ec : c' = c := ec
      subst ec
      obtain ⟨x, ex, k⟩ := opt_pure xE q3 s1
      obtain ⟨a, rfl, ha⟩ := isD_loc.mp hv
      obtain ⟨dx, vs, g1, hl, h2⟩ := s1.at_ n a _ ha (getO_is eo)
      obtain ⟨w, e1, e2⟩ := lk_rel h2 ex
      exact ⟨a, _, dx, _, w, rfl, g1, T.cl, T.no f hf, e1, k w e2⟩
    | _ => exact (bad_no (S := S1) q1).elim)
/-- self.f = e, self a shared place -/
def setF (n : Nat) (c : String) (f : Str) (x : Dat) (ρ : Env) : M Flow := fun S => (M.opt (getO S n) >>= fun o => M.need (decide (o.1 = c) && decide (o.2.1.length < 1000)) >>= fun _ => fun S => .ok (.nx ρ) (S.set n (.obj o.1 (putN f o.2.1) (putV f x o.2.1 o.2.2)))) S
def dLoc : Dat → Option Nat
  | .loc n => some n
  | _ => none
theorem dLoc_is {d : Dat} {n : Nat} (h : dLoc d = some n) : d = .loc n := by
  cases d <;> first | (cases h; rfl) | cases h
def sSetFL (c : String) (f : Str) (o a : Env → M Dat) (ρ : Env) : M Flow := a ρ >>= fun x => o ρ >>= fun y => M.opt (dLoc y) >>= fun n => setF n c f x ρ
theorem loc_ext {H : Hp} {p : Pl} {a : Addr} {o : HO} (ma : a ∈ p.α) : Ext H p (L2.upd H a o) p := ⟨⟨[], by simp⟩, ⟨[], by simp⟩, rfl, fun b u h n _ => by rw [upd_ne fun z => n (by rw [z]; exact ma)]; exact h, fun b h => by
  by_cases c : b = a
  · rw [c, upd_same]; exact nofun
  · rw [upd_ne c]; exact h⟩
theorem js_setFL {c : String} {f : Str} {fs : List Str} (T : ClsT Z c fs) (hf : f ∈ fs) (ho : JD Z Er O ta m1) (h : JD Z Er O te m) : JS Z Er O (sFld Z.K ta te f) (sSetFL c f m1 m) := fun σ H p ρ S D hE hS q =>
  h σ H p ρ S _ hE hS (q.bndE.mono fun d S1 H1 p1 e1 s1 q1 v hv => ho σ H1 p1 ρ S1 _ (hE.ext e1 hS) s1 (q1.bndE.mono fun o S2 H2 p2 e2 s2 q2 w hw => by
    obtain ⟨n, en, q2⟩ := Post.opt q2
    rw [dLoc_is en] at hw
    obtain ⟨a, rfl, ha⟩ := isD_loc.mp hw
    have q3 : Post Z Er Ext ((M.opt (getO S2 n) >>= fun o => M.need (decide (o.1 = c) && decide (o.2.1.length < 1000)) >>= fun _ => fun S => .ok (Flow.nx ρ) (S.set n (.obj o.1 (putN f o.2.1) (putV f d o.2.1 o.2.2)))) S2) H2 p2 _ := q2
    obtain ⟨⟨c', gs, ds⟩, eo, q3⟩ := Post.opt q3
    obtain ⟨ec, q4⟩ := Post.need q3
    simp only [Bool.and_eq_true, decide_eq_true_eq] at ec
    obtain ⟨ec, few⟩ := ec
    subst ec
    obtain ⟨dx, vs, g1, hl, g2⟩ := s2.at_ n a _ ha (getO_is eo)
    refine ⟨a, _, dx, _, rfl, g1, T.cl, T.no f hf, by rw [List.length_zip, ← hl, Nat.min_self]; exact few, ?_⟩
    obtain ⟨ws, k1, k2, k3⟩ := put_rel (f := f) (hv.ext e2.s) hl g2
    rw [k1]
    obtain ⟨e3, s3⟩ := loc_put (o := .ins (Z.κ c') dx ((putN f gs).zip ws)) (d := .obj c' (putN f gs) (putV f d gs ds)) s2 ha ⟨dx, ws, upd_same, k2, k3.ext (loc_ext (List.mem_of_getElem? ha))⟩
    exact q4 _ _ e3.s s3 σ (((hE.ext e1 hS).ext e2 s1).ext e3 s2)))
/-- an instance of the class c -/
def isO (c : String) (d : Dat) : M Unit := match d with
  | .loc n => fun S => (M.opt (getO S n) >>= fun o => M.need (decide (o.1 = c))) S
  | _ => M.no
theorem isO_is {α : Type} {X : XR} {c : String} {d : Dat} {mm : M α} {S : List Dat} {H : Hp} {p : Pl} {C : α → List Dat → Hp → Pl → Prop} {v : V} (s : IsS Z H p S) (hv : IsD Z H p v d) (q : Post Z Er X ((isO c d >>= fun _ => mm) S) H p C) :
    (∃ a dx fs, v = .ref a ∧ H a = some (.ins (Z.κ c) dx fs)) ∧ Post Z Er X (mm S) H p C := by
  cases d with
  | loc n =>
    rw [m_bind] at q
    have e : isO c (.loc n) S = (M.opt (getO S n) >>= fun o => M.need (decide (o.1 = c))) S := rfl
    rw [e] at q
    cases eo : getO S n with
    | none => rw [eo] at q; exact q.elim
    | some o =>
      obtain ⟨c', gs, ds⟩ := o
      rw [eo] at q
      have e2 : (M.opt (some (c', gs, ds)) >>= fun o : String × List Str × List Dat => M.need (decide (o.1 = c))) S = M.need (decide (c' = c)) S := rfl
      rw [e2] at q
      by_cases ec : c' = c
      · subst ec
        rw [decide_eq_true rfl] at q
        obtain ⟨a, rfl, ha⟩ := isD_loc.mp hv
        obtain ⟨dx, vs, g1, hl, g2⟩ := s.at_ n a _ ha (getO_is eo)
        exact ⟨⟨a, dx, _, rfl, g1⟩, q⟩
      · rw [decide_eq_false ec] at q
        exact q.elim
  | _ => exact q.elim
/-- x op y by an own method of the class -/
def dOwn (c : String) (F : List Dat → M Dat) (d e : Dat) : M Dat := isO c d >>= fun _ => isO c e >>= fun _ => calm (F [d, e])
def rOwnI (C : Addr) (sp : Sp) (E : XK) : L2.R2 := fun x y H Q => ∃ a dx fs b dy gs, x = .ref a ∧ y = .ref b ∧ H a = some (.ins C dx fs) ∧ H b = some (.ins C dy gs) ∧ sp [x, y] H Q E
theorem r_own {c : String} {F : List Dat → M Dat} {E : XK} : JRD Z (rOwnI (Z.κ c) (spD Z 2 F) E) (dOwn c F) := fun x y d e Er H p S Q hx hy s q => by
  obtain ⟨⟨a, dx, fs, rfl, ha⟩, q⟩ := isO_is s hx q
  obtain ⟨⟨b, dy, gs, rfl, hb⟩, q⟩ := isO_is s hy q
  exact ⟨a, dx, fs, b, dy, gs, rfl, rfl, ha, hb, call_sp rfl (isDs_cons.mpr ⟨_, _, rfl, hx, .one hy⟩) s q⟩
/-- isinstance(x, c), x an instance of the class c -/
structure InsT (Z : Cz) (c : String) : Prop where
  cl : Cls Z.K (Z.κ c)
  ha : PySem.W.findIn Z.K (.ref (Z.κ c)) "__class__" = some (some (.builtin "object.__class__"))
  hn : PySem.W.specialIn Z.K (.builtin "object.__class__") "__get__" = some (some (.builtin "getset_descriptor.__get__"))
  htk : PySem.W.takesIn Z.K (.builtin "object.__class__") = some true
  hm : PySem.W.mroIn Z.K (Z.κ c) (.type "object") = some true
  me : PySem.W.kitOne Z.K (.ref (Z.κ c)) (.ref (Z.κ c)) = some true
def dIsiO (c : String) (ds : List Dat) : M Dat := match ds with
  | [d, .cls c'] => M.need (decide (c' = c)) >>= fun _ => isO c d >>= fun _ => pure (.bl true)
  | _ => M.no
theorem c_isiO {c : String} (T : InsT Z c) : JC Z (IsDs Z) (IsD Z) (rIsi Z.K) (dIsiO c) := fun x d Er H p S Q hx s q => by
  unfold dIsiO at q
  split at q
  · rename_i d c'
    obtain ⟨ec, q⟩ := q.need
    have ec := of_decide_eq_true ec
    subst ec
    obtain ⟨v, w, rfl, h1, h2⟩ := isDs_two hx
    obtain ⟨⟨a, dx, fs, rfl, ha⟩, q⟩ := isO_is s h1 q
    have hw : w = .ref (Z.κ c') := by unfold IsD at h2; exact h2
    subst hw
    exact ⟨.ref a, .ref (Z.κ c'), _, _, true, rfl, .own _, .base (.ins ha T.cl T.ha T.hn T.htk T.hm), T.me, q.pure xE s _ (isD_bl.mpr rfl)⟩
  · exact (bad_no (S := S) q).elim

/-! ### texts, dicts, zip -/
def sT : Dat → Option Str
  | .str x => some x
  | _ => none
theorem sT_is {d : Dat} {x : Str} (h : sT d = some x) : d = .str x := by cases d <;> first | (cases h; rfl) | cases h
def dM0' (f : Str → Bool) (d : Dat) : M Dat := M.opt (sT d) >>= fun x => pure (.bl (f x))
theorem j_m0 {r : V → List V → Hp → VK → Prop} {f : Str → Bool} (hr : ∀ x H (Q : VK), Q (.bl (f x)) H → r (.str x) [] H Q) (h : JD Z Er O ta m) : JD Z Er O (tM0 r ta) (xUn (dM0' f) m) := fun σ H p ρ S Q hE hS q =>
  h σ H p ρ S _ hE hS ((q.bnd xE).mono fun d S1 H1 p1 e1 s1 q1 v hv => by
    obtain ⟨x, ex, q1⟩ := Post.opt q1
    rw [sT_is ex] at hv
    rw [isD_str.mp hv]
    exact ⟨⟨x, rfl⟩, hr x H1 Q (q1.pure xE s1 _ (isD_bl.mpr rfl))⟩)
/-- d[k] of a dict -/
def lkK (k : Key) : List Key → List Dat → Option Dat
  | g :: gs, d :: ds => if decide (g = k) = true then some d else lkK k gs ds
  | _, _ => none
def keyD : Dat → Option Key
  | .int i => some (.inl i)
  | .str x => some (.inr x)
  | _ => none
theorem lkK_rel {H : Hp} {p : Pl} {k : Key} : ∀ {gs : List Key} {ds : List Dat} {vs : List V} {d : Dat}, IsDs Z H p vs ds → lkK k gs ds = some d → ∃ v, valV (gs.zip vs) k = some v ∧ IsD Z H p v d
  | [], ds, _, d, _, e => by cases ds <;> cases e
  | g :: gs, [], _, d, h, e => by cases e
  | g :: gs, c :: ds, _, d, h, e => by
    obtain ⟨v, r, rfl, h1, h2⟩ := isDs_cons.mp h
    unfold lkK at e
    rw [List.zip_cons_cons]
    by_cases q : g = k
    · rw [if_pos (decide_eq_true q)] at e
      cases e
      exact ⟨v, valV_pos q, h1⟩
    · rw [if_neg (by rw [decide_eq_false q]; exact Bool.false_ne_true)] at e
      obtain ⟨w, e1, e2⟩ := lkK_rel h2 e
      refine ⟨w, ?_, e2⟩
      unfold valV at e1 ⊢
      rw [List.find?_cons, show decide (((g, v) : Key × V).1 = k) = false from decide_eq_false q]
      exact e1
theorem lkK_none {k : Key} : ∀ {gs : List Key} {ds : List Dat} {vs : List V}, gs.length = vs.length → vs.length = ds.length → lkK k gs ds = none → valV (gs.zip vs) k = none
  | [], _, _, _, _, _ => rfl
  | g :: gs, [], vs, h1, h2, _ => by rw [h2] at h1; cases h1
  | g :: gs, c :: ds, [], h1, h2, _ => by cases h1
  | g :: gs, c :: ds, v :: vs, h1, h2, e => by
    unfold lkK at e
    by_cases q : g = k
    · rw [if_pos (decide_eq_true q)] at e; cases e
    · rw [if_neg (by rw [decide_eq_false q]; exact Bool.false_ne_true)] at e
      have := lkK_none (k := k) (Nat.succ.inj h1) (Nat.succ.inj h2) e
      unfold valV at this ⊢
      rw [List.zip_cons_cons, List.find?_cons, show decide (((g, v) : Key × V).1 = k) = false from decide_eq_false q]
      exact this
theorem keyD_is {H : Hp} {p : Pl} {v : V} {d : Dat} {k : Key} (h : IsD Z H p v d) (e : keyD d = some k) : v = kV k := by
  cases d with
  | int i => cases e; exact isD_int.mp h
  | str x => cases e; exact isD_str.mp h
  | _ => cases e
def dDGet (d e : Dat) : M Dat := match d with
  | .dic ks ds => M.opt (keyD e) >>= fun k => M.opt (lkK k ks ds)
  | _ => M.no
def xDGet (a b : Env → M Dat) (ρ : Env) : M Dat := a ρ >>= fun x => b ρ >>= fun y => dDGet x y
theorem j_dget (ha : JW Z Er O ta m1) (hb : JD Z Er O tb m2) : JD Z Er O (tDGet ta tb) (xDGet m1 m2) := fun σ H p ρ S Q hE hS q =>
  ha σ H p ρ S _ hE hS ((q.bnd xE).mono fun d S1 H1 p1 e1 s1 q1 v hv => hb σ H1 p1 ρ S1 _ (hE.ext e1 hS) s1 ((q1.bnd xE).mono fun e S2 H2 p2 e2 s2 q2 w hw => by
    cases d with
    | dic ks ds =>
      obtain ⟨k, ek, q2⟩ := Post.opt q2
      obtain ⟨x, ex, kk⟩ := opt_pure xE q2 s2
      obtain ⟨a, vs, rfl, h1, hl, h2⟩ := upW.up e2 s1 hv
      obtain ⟨u, g1, g2⟩ := lkK_rel h2 ex
      exact ⟨a, u, rfl, .inl ⟨_, k, .inl h1.1, keyD_is hw ek, g1.symm⟩, kk u g2⟩
    | _ => exact (bad_no (S := S2) q2).elim))
def dDIn (neg : Bool) (e d : Dat) : M Dat := match d with
  | .dic ks ds => M.opt (keyD e) >>= fun k => pure (.bl (neg != (lkK k ks ds).isSome))
  | _ => M.no
def xDIn (neg : Bool) (a b : Env → M Dat) (ρ : Env) : M Dat := a ρ >>= fun x => b ρ >>= fun y => dDIn neg x y
theorem dget_of {H : Hp} {p : Pl} {ks : List Key} {ds : List Dat} {v w : V} {e : Dat} {k : Key} (hv : IsW Z H p v (.dic ks ds)) (hw : IsD Z H p w e) (ek : keyD e = some k) : ∃ a o, v = .ref a ∧ DGet H a w o ∧ o.isSome = (lkK k ks ds).isSome := by
  obtain ⟨a, vs, rfl, h1, hl, h2⟩ := hv
  refine ⟨a, _, rfl, .inl ⟨_, k, .inl h1.1, keyD_is hw ek, rfl⟩, ?_⟩
  cases z : lkK k ks ds with
  | none => rw [lkK_none hl h2.len z]; rfl
  | some d => obtain ⟨u, g1, _⟩ := lkK_rel h2 z; rw [g1]; rfl
theorem j_din (hb : JD Z Er O tb m2) (ha : JW Z Er O ta m1) : JD Z Er O (tDIn tb ta) (xDIn false m2 m1) := fun σ H p ρ S Q hE hS q =>
  hb σ H p ρ S _ hE hS ((q.bnd xE).mono fun e S1 H1 p1 e1 s1 q1 w hw => ha σ H1 p1 ρ S1 _ (hE.ext e1 hS) s1 ((q1.bnd xE).mono fun d S2 H2 p2 e2 s2 q2 v hv => by
    cases d with
    | dic ks ds =>
      obtain ⟨k, ek, q2⟩ := Post.opt q2
      obtain ⟨a, o, rfl, g1, g2⟩ := dget_of hv (hw.ext e2.s) ek
      refine ⟨a, o, rfl, g1, ?_⟩
      rw [g2]
      have z := q2.pure xE s2
      rw [Bool.false_bne] at z
      exact z _ (isD_bl.mpr rfl)
    | _ => exact (bad_no (S := S2) q2).elim))
theorem j_dnotin (hb : JD Z Er O tb m2) (ha : JW Z Er O ta m1) : JD Z Er O (tDNotIn tb ta) (xDIn true m2 m1) := fun σ H p ρ S Q hE hS q =>
  hb σ H p ρ S _ hE hS ((q.bnd xE).mono fun e S1 H1 p1 e1 s1 q1 w hw => ha σ H1 p1 ρ S1 _ (hE.ext e1 hS) s1 ((q1.bnd xE).mono fun d S2 H2 p2 e2 s2 q2 v hv => by
    cases d with
    | dic ks ds =>
      obtain ⟨k, ek, q2⟩ := Post.opt q2
      obtain ⟨a, o, rfl, g1, g2⟩ := dget_of hv (hw.ext e2.s) ek
      refine ⟨a, o, rfl, g1, ?_⟩
      rw [g2]
      have z := q2.pure xE s2
      rw [Bool.true_bne] at z
      exact z _ (isD_bl.mpr rfl)
    | _ => exact (bad_no (S := S2) q2).elim))
/-- zip(a, b): two lists, two tuples -/
def zipD (xs ys : List Dat) : List Dat := (xs.zip ys).map fun q => .tup [q.1, q.2]
def iZip (l : Env → M (List Dat)) (ρ : Env) : M (List Dat) := l ρ >>= fun ds => match ds with
  | [.lst xs, .lst ys] => pure (zipD xs ys)
  | [.tup xs, .tup ys] => pure (zipD xs ys)
  | _ => M.no
theorem zip_len {xs ys : List Dat} : (zipD xs ys).length = min xs.length ys.length := by unfold zipD; rw [List.length_map, List.length_zip]
theorem zip_at {xs ys : List Dat} {i : Nat} (h1 : i < xs.length) (h2 : i < ys.length) : (zipD xs ys)[i]? = some (.tup [xs[i], ys[i]]) := by
  unfold zipD
  rw [List.getElem?_map, List.getElem?_zip_eq_some (z := (xs[i], ys[i])) |>.mpr ⟨List.getElem?_eq_getElem h1, List.getElem?_eq_getElem h2⟩]
  rfl
theorem walks_zipT {X : XR} (x : XOk X) {H : Hp} {p : Pl} {a b : Addr} {vs ws : List V} {xs ys : List Dat} (ha : TupAt Z H p a vs) (h1 : IsDs Z H p vs xs) (hb : TupAt Z H p b ws) (h2 : IsDs Z H p ws ys) : Walks Z X (RZ.ItzT Z.K a b) (zipD xs ys) H p := fun H1 p1 S1 i e s => by
  have ha1 := ha.ext (x.s e)
  have hb1 := hb.ext (x.s e)
  have g1 := h1.ext (x.s e)
  have g2 := h2.ext (x.s e)
  rw [zip_len]
  refine ⟨fun lt => ?_, fun le => ⟨vs, ws, ha1.sq, hb1.sq, by rw [g1.len, g2.len]; omega⟩⟩
  have l1 : i < xs.length := by omega
  have l2 : i < ys.length := by omega
  obtain ⟨v, e1, k1⟩ := g1.get (List.getElem?_eq_getElem l1)
  obtain ⟨w, e2, k2⟩ := g2.get (List.getElem?_eq_getElem l2)
  refine ⟨⟨vs, ws, v, w, ha1.sq, hb1.sq, e1, e2⟩, fun y H' ⟨t, v', w', ev, nt, eH, f1, f2⟩ => ?_⟩
  subst ev eH
  have z1 := f1 vs ha1.sq
  have z2 := f2 ws hb1.sq
  rw [e1] at z1
  rw [e2] at z2
  cases z1
  cases z2
  exact ⟨same_new nt, _, zip_at l1 l2, new_tup s nt (isDs_cons.mpr ⟨_, _, rfl, k1, .one k2⟩)⟩
theorem walks_zipL {X : XR} (x : XOk X) {H : Hp} {p : Pl} {a b : Addr} {vs ws : List V} {xs ys : List Dat} (ha : LstAt Z H p a vs) (h1 : IsDs Z H p vs xs) (hb : LstAt Z H p b ws) (h2 : IsDs Z H p ws ys) : Walks Z X (Itz Z.K a b) (zipD xs ys) H p := fun H1 p1 S1 i e s => by
  have ha1 := ha.ext (x.s e)
  have hb1 := hb.ext (x.s e)
  have g1 := h1.ext (x.s e)
  have g2 := h2.ext (x.s e)
  rw [zip_len]
  refine ⟨fun lt => ?_, fun le => ⟨vs, ws, ha1.sq, hb1.sq, by rw [g1.len, g2.len]; omega⟩⟩
  have l1 : i < xs.length := by omega
  have l2 : i < ys.length := by omega
  obtain ⟨v, e1, k1⟩ := g1.get (List.getElem?_eq_getElem l1)
  obtain ⟨w, e2, k2⟩ := g2.get (List.getElem?_eq_getElem l2)
  refine ⟨⟨vs, ws, v, w, ha1.sq, hb1.sq, e1, e2⟩, fun y H' ⟨t, v', w', ev, nt, eH, f1, f2⟩ => ?_⟩
  subst ev eH
  have z1 := f1 vs ha1.sq
  have z2 := f2 ws hb1.sq
  rw [e1] at z1
  rw [e2] at z2
  cases z1
  cases z2
  exact ⟨same_new nt, _, zip_at l1 l2, new_tup s nt (isDs_cons.mpr ⟨_, _, rfl, k1, .one k2⟩)⟩
theorem ji_zip {X : XR} (x : XOk X) (hl : JA Z Er O tl ml) : JI Z Er O X (RZ.iZipA Z.K tl) (iZip ml) := fun σ H p ρ S R hE hS q =>
  hl σ H p ρ S _ hE hS ((q.bnd xE).mono fun ds S1 H1 p1 e1 s1 q1 vs hv => by
    split at q1
    · obtain ⟨v, w, rfl, h1, h2⟩ := isDs_two hv
      obtain ⟨a, us, rfl, h3, h4⟩ := isD_lst.mp h1
      obtain ⟨b, ws, rfl, h5, h6⟩ := isD_lst.mp h2
      exact ⟨a, b, us, ws, rfl, .inl ⟨h3.sq, h5.sq, q1.pure xE s1 _ (walks_zipL x h3 h4 h5 h6)⟩⟩
    · obtain ⟨v, w, rfl, h1, h2⟩ := isDs_two hv
      obtain ⟨a, us, rfl, h3, h4⟩ := isD_tup.mp h1
      obtain ⟨b, ws, rfl, h5, h6⟩ := isD_tup.mp h2
      exact ⟨a, b, us, ws, rfl, .inr ⟨h3.sq, h5.sq, q1.pure xE s1 _ (walks_zipT x h3 h4 h5 h6)⟩⟩
    · exact (bad_no (S := S1) q1).elim)
/-- a dict display -/
def xPairs : List ((Env → M Dat) × (Env → M Dat)) → Env → M (List (Dat × Dat))
  | [], _ => pure []
  | (a, b) :: r, ρ => a ρ >>= fun x => b ρ >>= fun y => xPairs r ρ >>= fun l => pure ((x, y) :: l)
def keysD : List (Dat × Dat) → Option (List Key)
  | [] => some []
  | (a, _) :: r => (keyD a).bind fun k => (keysD r).map (k :: ·)
def noDup : List Key → Bool
  | [] => true
  | k :: r => !r.any (fun g => decide (g = k)) && noDup r
def xDisp (l : List ((Env → M Dat) × (Env → M Dat))) (ρ : Env) : M Dat := xPairs l ρ >>= fun ps => M.opt (keysD ps) >>= fun ks => M.need (noDup ks && decide (ks.length ≤ 15)) >>= fun _ => pure (.dic ks (ps.map (·.2)))
end
end Zd

namespace Zd
open PySem PySem.Spec PyProof.Rows L2
/-! ### rules that the layer lacks -/
section
variable {X : Cx} {a b c d e o : Expr} {pos apos cpos : Pos} {ta tb tc td ty : TE}
def tChain3 (r r' r'' : L2.R2) (ta tb tc td : TE) : TE := fun σ H Q => ta σ H fun x H1 => tb σ H1 fun y H2 => r x y H2 fun z H3 => ∃ k, z = .bl k ∧
  (if k = true then tc σ H3 fun x2 H4 => r' y x2 H4 fun z2 H5 => ∃ k2, z2 = .bl k2 ∧ (if k2 = true then td σ H5 fun x3 H6 => r'' x2 x3 H6 Q else Q (.bl false) H5) else Q (.bl false) H3)
theorem pe_chain3 {p1 p2 p3 : CmpOp} {r r' r'' : L2.R2} (o1 : OpR X (compareOp p1) r) (o2 : OpR X (compareOp p2) r') (o3 : OpR X (compareOp p3) r'') (ea : PE X a ta) (eb : PE X b tb) (ec : PE X c tc) (ed : PE X d td)
    (nm : lastMarks [p1, p2, p3] [b, c, d] = false := by with_unfolding_all rfl) : PE X (.Compare a [p1, p2, p3] [b, c, d] pos) (tChain3 r r' r'' ta tb tc td) := by
  constructor
  intro pn s σ H Q I g
  refine Compare_chain (thn (ea.run pn s σ H _ I g) fun va s1 ⟨x, H1, I1, ra, g1⟩ => ?_) nm
  refine chain_link (thn (eb.run pn s1 σ H1 _ I1 g1) fun vb s2 ⟨y, H2, I2, rb, g2⟩ => thn (o1 pn s2 σ H2 x y va vb _ I2 ra rb g2) fun vz s3 ⟨z, H3, I3, rz, k, ez, g3⟩ => ?_)
  subst ez
  cases rz
  refine wpAny_truthy_bool ?_
  cases k with
  | false => exact ite_ff ⟨.bl false, H3, I3, rfl, g3⟩
  | true =>
    refine ite_tt (chain_link (thn (ec.run pn s3 σ H3 _ I3 g3) fun vc s4 ⟨x2, H4, I4, rc, g4⟩ => thn (o2 pn s4 σ H4 y x2 vb vc _ I4 rb rc g4) fun vz2 s5 ⟨z2, H5, I5, rz2, k2, ez2, g5⟩ => ?_))
    subst ez2
    cases rz2
    refine wpAny_truthy_bool ?_
    cases k2 with
    | false => exact ite_ff ⟨.bl false, H5, I5, rfl, g5⟩
    | true => exact ite_tt (chain_last (thn (ed.run pn s5 σ H5 _ I5 g5) fun vd s6 ⟨x3, H6, I6, rd, g6⟩ => o3 pn s6 σ H6 x2 x3 vc vd Q I6 rc rd g6))
/-- d.get(k), d a dict of the module with text keys -/
structure KTab (K : PySem.W.Frag) (w : World) (a : Addr) : Prop where
  ex : ∃ (es : Array DictEntry) (n : Nat), KDict K w a es n
def tKGet (K : PySem.W.Frag) (w : World) (a : Addr) (td ty : TE) : TE := fun σ H Q => td σ H fun x H1 => x = .ref a ∧ ty σ H1 fun y H2 => ∃ (z : Str) (r : Option Value), y = .str z ∧ PySem.W.nsIn K a z = some r ∧ (∀ u, r = some u → ∃ v, RelV v u ∧ Q v H2) ∧ (r = none → Q .non H2)
theorem pe_kget {D : Addr} (kt : KTab X.K X.w D) (ho : PE X o td) (he : PE X e ty) (m : M1 X o "get" apos e cpos) : PE X (.Call (.Attribute o "get" apos) [e] [] cpos) (tKGet X.K X.w D td ty) := by
  obtain ⟨es, n, kd⟩ := kt.ex
  constructor
  intro pn s σ H Q I g
  refine wpAny_Call_method m.base m.few m.line PySem.F.plainAttrs_dict PySem.F.slot_dict_get PySem.F.type_dict_get (thn (ho.run pn s σ H _ I g) fun vo s1 ⟨x, H1, I1, ro, ex, g1⟩ => ?_)
  subst ex
  cases (show vo = Value.ref D from ro)
  have mp := PySem.W.mapOf_K (prog := X.prog) (w := X.w) I1.kIn kd.at_ kd.lit
  refine ⟨mp.typeIs, fun b q => ?_, ?_⟩
  · cases q
    exact ⟨_, I1.kIn _ _ kd.at_, rfl⟩
  rw [m.trees]
  refine PySem.wpAny_dict_get1 (knd := PySem.strKind X.prog X.w) kd.low (thn (he.run pn s1 σ H1 _ I1 g1) fun vk s2 ⟨y, H2, I2, ry, z, r, ey, en, q1, q2⟩ => ?_)
  subst ey
  obtain ⟨t, rfl⟩ := (show ∃ t, vk = Value.str z t from ry)
  refine ⟨z, _, PySem.strKind_is X.prog X.w z t, PySem.W.mapOf_K (prog := X.prog) (w := X.w) I2.kIn kd.at_ kd.lit, ?_⟩
  show EP X pn σ Q ((findBy Value.isStrOf es z).getD .none) _
  rw [PySem.W.find_K kd.at_ en]
  cases r with
  | none => exact ⟨.non, H2, I2.tok _, rfl, q2 rfl⟩
  | some u =>
    obtain ⟨v, rv, qv⟩ := q1 u rfl
    exact ⟨v, H2, I2.tok _, rv, qv⟩
/-- repr of data, of the empty dict too -/
def rRepr0 (K : PySem.W.Frag) : List V → Hp → VK → Prop := fun xs H Q => Zg.rReprD K xs H Q ∨ ∃ p, xs = [.ref p] ∧ H p = some (.dK []) ∧ Q (.str "{}") H
end
end Zd

namespace Zd
open PySem PySem.Spec PyProof.Rows L2

/-! ### zip, enumerate of lists, tuples, texts -/
inductive Src where
  | li (a : Addr) | tu (a : Addr) | tx (x : Str)
def Src.v : Src → V
  | .li a => .ref a
  | .tu a => .ref a
  | .tx x => .str x
def Src.has (K : PySem.W.Frag) (H : Hp) (i : Nat) (v : V) : Src → Prop
  | .li a => ∃ xs, SqL K H a xs ∧ xs[i]? = some v
  | .tu a => ∃ xs, SqT K H a xs ∧ xs[i]? = some v
  | .tx x => ∃ c, x.cps[i]? = some c ∧ v = .str ⟨#[c]⟩
def Src.len (K : PySem.W.Frag) (H : Hp) (n : Nat) : Src → Prop
  | .li a => ∃ xs, SqL K H a xs ∧ xs.length = n
  | .tu a => ∃ xs, SqT K H a xs ∧ xs.length = n
  | .tx x => x.cps.size = n
def Src.fp (it : Addr) : Src → List Addr
  | .li a => [it, a]
  | .tu a => [it, a]
  | .tx _ => [it]
def Src.off (c : Addr) : Src → Prop
  | .li a => a ≠ c
  | .tu a => a ≠ c
  | .tx _ => True
/-- its iterator at the place i -/
def Src.itr (it : Addr) (i : Nat) (h : Heap) : Src → Prop
  | .li a => h.IsListIter it a i
  | .tu a => h.IsTupleIter it a i
  | .tx x => ∃ t, h.IsStrIter it (strIterType x) x t i
theorem Src.itr_keep {it : Addr} {i : Nat} {h h' : Heap} : ∀ {s : Src}, s.itr it i h → (∀ o, h.get? it = some o → h'.get? it = some o) → s.itr it i h'
  | .li a, q, k => Heap.IsListIter.at q k
  | .tu a, q, k => Heap.IsTupleIter.at q k
  | .tx x, ⟨t, o, e, c, d⟩, k => ⟨t, o, k o e, c, d⟩
theorem Src.itr_obj {it : Addr} {i : Nat} {h : Heap} : ∀ {s : Src}, s.itr it i h → ∃ o, h.get? it = some o ∧ ∀ v, o.data ≠ .cell v
  | .li a, ⟨o, e, c, d⟩ => ⟨o, e, fun v q => by rw [d] at q; cases q⟩
  | .tu a, ⟨o, e, c, d⟩ => ⟨o, e, fun v q => by rw [d] at q; cases q⟩
  | .tx x, ⟨t, o, e, c, d⟩ => ⟨o, e, fun v q => by rw [d] at q; cases q⟩
theorem Src.mem {it : Addr} : ∀ {s : Src}, it ∈ s.fp it
  | .li a => List.mem_cons_self
  | .tu a => List.mem_cons_self
  | .tx x => List.mem_cons_self
theorem Src.nofp {it c : Addr} : ∀ {s : Src}, c ≠ it → s.off c → c ∉ s.fp it
  | .li a, h, k, m => by
    rcases List.mem_cons.mp m with e | e
    · exact h e
    · exact k (List.mem_singleton.mp e).symm
  | .tu a, h, k, m => by
    rcases List.mem_cons.mp m with e | e
    · exact h e
    · exact k (List.mem_singleton.mp e).symm
  | .tx x, h, k, m => h (List.mem_singleton.mp m)
/-- what it draws, as things stand -/
structure Src.Dr (P : Program) (w : World) (A : Around) (K : PySem.W.Frag) (H : Hp) (s : Src) (it : Addr) (i : Nat) (h : Heap) (n : Nat) : Prop where
  dr : ∃ (Pv : Nat → Value → Prop) (St : Nat → Heap → Prop), Draws P w A it (s.fp it) n Pv St ∧ St i h ∧ (∀ u, Pv i u → ∃ x, RelV x u ∧ s.has K H i x) ∧ ∀ j h', St j h' → s.itr it j h'
theorem Src.dr {X : Cx} {pins : List (Addr × Obj)} {σ : L2.St} {H : Hp} {sh : Shared} (I : Inv X pins σ H sh) (hc : X.calm = true) {it : Addr} {i n : Nat} : ∀ {s : Src}, s.len X.K H n → s.itr it i sh.heap → s.off it → Src.Dr X.prog X.w X.A.in1 X.K H s it i sh.heap n
  | .li a, ⟨xs, hq, hl⟩, st, ho => by
    obtain ⟨its, rv, p, hz⟩ := I.list hq
    have e : its.toArray.size = n := by rw [List.size_toArray, ← rv.length, hl]
    subst e
    refine ⟨_, _, Draws.list (A := X.A.in1) (I.ok.hd hc) it a ho its.toArray, ⟨st, p.isList⟩, fun u hu => ?_, fun j h' st' => st'.1⟩
    have hu : its[i]? = some u := by simpa using hu
    have lt : i < xs.length := by rw [rv.length]; exact (List.getElem?_eq_some_iff.mp hu).1
    obtain ⟨u', h1, h2⟩ := rv.get (List.getElem?_eq_getElem lt)
    rw [hu] at h1
    cases h1
    exact ⟨_, h2, xs, hq, List.getElem?_eq_getElem lt⟩
  | .tu a, ⟨xs, hq, hl⟩, st, ho => by
    obtain ⟨its, rv, p, hz⟩ := I.tuple hq
    have e : its.toArray.size = n := by rw [List.size_toArray, ← rv.length, hl]
    subst e
    refine ⟨_, _, Draws.tuple (A := X.A.in1) (I.ok.hd hc) it a ho its.toArray, ⟨st, p⟩, fun u hu => ?_, fun j h' st' => st'.1⟩
    have hu : its[i]? = some u := by simpa using hu
    have lt : i < xs.length := by rw [rv.length]; exact (List.getElem?_eq_some_iff.mp hu).1
    obtain ⟨u', h1, h2⟩ := rv.get (List.getElem?_eq_getElem lt)
    rw [hu] at h1
    cases h1
    exact ⟨_, h2, xs, hq, List.getElem?_eq_getElem lt⟩
  | .tx x, hl, ⟨t, st⟩, ho => by
    have e : x.cps.size = n := hl
    subst e
    refine ⟨_, _, Draws.text (A := X.A.in1) (I.ok.hd hc) it x t, st, fun u hu => ?_, fun j h' st' => ⟨t, st'⟩⟩
    obtain ⟨c, v, h1, h2⟩ := hu
    exact ⟨.str ⟨#[c]⟩, ⟨v, h2⟩, c, h1, rfl⟩
theorem Src.inj {X : Cx} {pins : List (Addr × Obj)} {σ : L2.St} {H : Hp} {sh : Shared} (I : Inv X pins σ H sh) {i : Nat} {x y : V} : ∀ {s : Src}, s.has X.K H i x → s.has X.K H i y → x = y
  | .li a, ⟨xs, h1, h2⟩, ⟨ys, k1, k2⟩ => by
    rw [I.list_inj h1 k1, k2] at h2
    exact (Option.some.inj h2).symm
  | .tu a, ⟨xs, h1, h2⟩, ⟨ys, k1, k2⟩ => by
    rw [I.tuple_inj h1 k1, k2] at h2
    exact (Option.some.inj h2).symm
  | .tx x, ⟨c, h1, h2⟩, ⟨d, k1, k2⟩ => by
    rw [h1] at k1
    cases k1
    rw [h2, k2]
def ItzG (K : PySem.W.Frag) (s1 s2 : Src) : It :=
  ⟨fun i H => ∃ n1 n2, s1.len K H n1 ∧ s2.len K H n2 ∧ i < n1 ∧ i < n2,
    fun i H v H' => ∃ T x y, v = .ref T ∧ H T = none ∧ H' = upd H T (.tup [x, y]) ∧ (∀ z, s1.has K H i z → x = z) ∧ ∀ z, s2.has K H i z → y = z,
    fun i H => ∃ n1 n2, s1.len K H n1 ∧ s2.len K H n2 ∧ i ≤ n1 ∧ i ≤ n2 ∧ (i = n1 ∨ i = n2)⟩
structure SepG (s1 s2 : Src) (z TI TO i1 i2 : Addr) : Prop where
  TIz : TI ≠ z
  TOz : TO ≠ z
  i1z : i1 ≠ z
  i2z : i2 ≠ z
  TITO : TI ≠ TO
  TIi1 : TI ≠ i1
  TIi2 : TI ≠ i2
  TOi1 : TO ≠ i1
  TOi2 : TO ≠ i2
  i12 : i1 ≠ i2
  a1 : ∀ c, c = z ∨ c = TO ∨ c = i1 ∨ c = i2 → s1.off c
  a2 : ∀ c, c = z ∨ c = TO ∨ c = i1 ∨ c = i2 → s2.off c
theorem SepG.sep {s1 s2 : Src} {z TI TO i1 i2 : Addr} (D : SepG s1 s2 z TI TO i1 i2) : ZipSep2 z TI TO i1 i2 (s1.fp i1) (s2.fp i2) :=
  { TIz := D.TIz, TOz := D.TOz, TITO := D.TITO, TIi1 := D.TIi1, mem1 := Src.mem, zf1 := Src.nofp (Ne.symm D.i1z) (D.a1 _ (.inl rfl)), Tf1 := Src.nofp D.TOi1 (D.a1 _ (.inr (.inl rfl))),
    TIi2 := D.TIi2, mem2 := Src.mem, zf2 := Src.nofp (Ne.symm D.i2z) (D.a2 _ (.inl rfl)), Tf2 := Src.nofp D.TOi2 (D.a2 _ (.inr (.inl rfl))),
    sep1_2 := Src.nofp D.i12 (D.a2 _ (.inr (.inr (.inl rfl)))), sep2_1 := Src.nofp (Ne.symm D.i12) (D.a1 _ (.inr (.inr (.inr rfl)))) }
theorem turn_zipG {P : Program} {w : World} {K : PySem.W.Frag} {elts : List Expr} {kk : Nat} {tpos : Pos} {s1 s2 : Src} {z TI TO i1 i2 : Addr} (D : SepG s1 s2 z TI TO i1 i2) :
    Turn P w K (.Tuple elts kk tpos) (ItzG K s1 s2) [z, TI, TO, i1, i2] z (fun i h => IsZip h z TI TO .none ∧ IsTupOf2 h TI (.ref i1) (.ref i2) ∧ (∃ x y, IsTupOf2 h TO x y) ∧ s1.itr i1 i h ∧ s2.itr i2 i h) where
  mem := by simp
  obj := fun i h ⟨hz, hTI, ⟨x, y, hTO⟩, h1, h2⟩ c hc => by
    have five : c = z ∨ c = TI ∨ c = TO ∨ c = i1 ∨ c = i2 := by simpa using hc
    rcases five with rfl | rfl | rfl | rfl | rfl
    · exact ⟨_, hz, nofun⟩
    · exact ⟨_, hTI, nofun⟩
    · exact ⟨_, hTO, nofun⟩
    · exact Src.itr_obj h1
    · exact Src.itr_obj h2
  keep := fun i h h' ⟨hz, hTI, ⟨x, y, hTO⟩, h1, h2⟩ k => ⟨k z (by simp) _ hz, k TI (by simp) _ hTI, ⟨x, y, k TO (by simp) _ hTO⟩, Src.itr_keep h1 fun o q => k i1 (by simp) o q, Src.itr_keep h2 fun o q => k i2 (by simp) o q⟩
  item := by
    rintro X rfl rfl rfl hc i pins s σ H E I hf ⟨hz, hTI, ⟨a1, a2, hTO⟩, h1, h2⟩ ⟨n1, n2, l1, l2, lt1, lt2⟩
    obtain ⟨P1, St1, D1, t1, g1, f1⟩ := (Src.dr I hc l1 h1 (D.a1 _ (.inr (.inr (.inl rfl))))).dr
    obtain ⟨P2, St2, D2, t2, g2, f2⟩ := (Src.dr I hc l2 h2 (D.a2 _ (.inr (.inr (.inr rfl))))).dr
    refine wpAny_pyNext_zipD2_item D.sep D1 D2 hz hTI hTO t1 t2 lt1 lt2 fun u1 u2 h' tk p1 p2 z' TO' q1 q2 hT hsz hk => ⟨_, rfl, wpAny_letOwnedTupleGo_zip (s := { s with heap := h', toks := tk }) z' fun h'' z'' sb => ?_⟩
    obtain ⟨x, rx, hx⟩ := g1 u1 p1
    obtain ⟨y, ry, hy⟩ := g2 u2 p2
    have ne : ∀ {c o}, s.heap.get? c = some o → s.heap.objs.size ≠ c := fun e => Nat.ne_of_gt (Heap.lt_size e)
    have sb' : ∀ c, c ≠ z → h''.get? c = h'.get? c := fun c n => sb.2 c n
    have hT2 : h''.get? s.heap.objs.size = some { cls := .type "tuple", data := .seq #[u1, u2] } := (sb' _ (ne hz)).trans hT
    have new : ObjOk X.prog X.w (upd H s.heap.objs.size (.tup [x, y])) h'' s.heap.objs.size (.tup [x, y]) := ⟨show 2 ≤ sizeLine by decide, [u1, u2], .cons rx (.cons ry .nil), ⟨_, hT2, rfl, _, rfl⟩⟩
    have lt : ∀ c ∈ [z, TI, TO, i1, i2], c ≠ s.heap.objs.size := fun c hc' => by
      have five : c = z ∨ c = TI ∨ c = TO ∨ c = i1 ∨ c = i2 := by simpa using hc'
      rcases five with rfl | rfl | rfl | rfl | rfl
      · exact (ne hz).symm
      · exact (ne hTI).symm
      · exact (ne hTO).symm
      · obtain ⟨o, e, _⟩ := Src.itr_obj h1; exact (ne e).symm
      · obtain ⟨o, e, _⟩ := Src.itr_obj h2; exact (ne e).symm
    refine ⟨.ref s.heap.objs.size, _, I.turnedNew (t' := tk) (ch := [z, TI, TO, i1, i2]) (fun c o hb q => (sb' c fun e => hb (by simp [e])).trans (hk c o (fun e => hb (by simp [e])) (fun e => hb (by simp [e])) (fun e => hb (by simp [e])) (fun e => hb (by simp [e])) q)) hf (Nat.le_refl _) new, rfl,
      ⟨_, x, y, rfl, I.hok.fresh (Nat.le_refl _), rfl, fun _ q => Src.inj I hx q, fun _ q => Src.inj I hy q⟩, ⟨z'', (sb' _ D.TIz).trans (hk _ _ D.TIz D.TITO D.TIi1 D.TIi2 hTI), ⟨u1, u2, (sb' _ D.TOz).trans TO'⟩, Src.itr_keep (f1 _ _ q1) fun o q => (sb' _ D.i1z).trans q, Src.itr_keep (f2 _ _ q2) fun o q => (sb' _ D.i2z).trans q⟩, fun c hc' => ?_⟩
    rw [upd_ne (lt c hc')]
    exact (hf c hc').1
  done := by
    rintro X rfl rfl rfl hc i pins s σ H E I hf ⟨hz, hTI, ⟨a1, a2, hTO⟩, h1, h2⟩ ⟨n1, n2, l1, l2, lt1, lt2, en⟩
    obtain ⟨P1, St1, D1, t1, g1, f1⟩ := (Src.dr I hc l1 h1 (D.a1 _ (.inr (.inr (.inl rfl))))).dr
    obtain ⟨P2, St2, D2, t2, g2, f2⟩ := (Src.dr I hc l2 h2 (D.a2 _ (.inr (.inr (.inr rfl))))).dr
    exact wpAny_pyNext_zipD2_end D.sep D1 D2 hz hTI hTO t1 t2 lt1 lt2 en fun h' tk hk => ⟨rfl, I.turnedL (t' := tk) (ch := [z, TI, TO, i1, i2]) (fun c o hb q =>
      hk c o (fun e => hb (by simp [e])) (fun e => hb (by simp [e])) (fun e => hb (by simp [e])) (fun e => hb (by simp [e])) q) hf⟩
  self := fun A i s Q E st h => wpAny_pyIter_zip st.1 h
/-- it begins -/
theorem Src.begins {X : Cx} {pins : List (Addr × Obj)} {σ : L2.St} {H : Hp} {sh : Shared} (I : Inv X pins σ H sh) {u : Value} {n : Nat} : ∀ {s : Src}, s.len X.K H n → RelV s.v u →
    ∃ (o : Obj) (Hb : Heap → Prop), Begins u o Hb ∧ Hb sh.heap ∧ (∀ h' it, h'.get? it = some o → s.itr it 0 h') ∧ ∀ c, sh.heap.objs.size ≤ c → s.off c
  | .li a, ⟨xs, hq, _⟩, r => by
    obtain ⟨its, rv, p, hz⟩ := I.list hq
    cases (show u = Value.ref a from r)
    refine ⟨_, _, begins_list a its.toArray, p.isList, fun h' it e => ⟨_, e, rfl, rfl⟩, fun c le e => ?_⟩
    obtain ⟨o, h1, _⟩ := p.isList
    rw [← e] at le
    exact absurd (Heap.lt_size h1) (Nat.not_lt.mpr le)
  | .tu a, ⟨xs, hq, _⟩, r => by
    obtain ⟨its, rv, p, hz⟩ := I.tuple hq
    cases (show u = Value.ref a from r)
    refine ⟨_, _, begins_tuple a its.toArray, p, fun h' it e => ⟨_, e, rfl, rfl⟩, fun c le e => ?_⟩
    obtain ⟨o, h1, _⟩ := id p
    rw [← e] at le
    exact absurd (Heap.lt_size h1) (Nat.not_lt.mpr le)
  | .tx x, _, r => by
    obtain ⟨t, rfl⟩ := (show ∃ t, u = Value.str x t from r)
    exact ⟨_, _, begins_text x t, trivial, fun h' it e => ⟨t, _, e, rfl, rfl⟩, fun _ _ => trivial⟩
def iZipG (K : PySem.W.Frag) (ta : TA) : TI := fun σ H R => ta σ H fun vs H1 => ∃ (s1 s2 : Src) (n1 n2 : Nat), vs = [s1.v, s2.v] ∧ s1.len K H1 n1 ∧ s2.len K H1 n2 ∧ R (ItzG K s1 s2) H1
theorem pi_zipG {X : Cx} {e e2 : Expr} {ta : TA} {p pos tpos : Pos} {elts : List Expr} {kk : Nat} (hg : Gl X "zip") (hm : X.mg "zip" = none) (ha : PA X [e, e2] ta)
    (hs : starEach [e, e2] X.env = (false, eval e X.env) :: starEach [e2] X.env := by rfl) (hpl : (backTo pos (starEach [e2] X.env)).any (·.1) = false := by rfl) :
    PI X (.Tuple elts kk tpos) (.Call (.Name "zip" p) [e, e2] [] pos) (iZipG X.K ta) := by
  refine ⟨fun pins s σ H R I h => Call_ (ld_blt I hg hm PyProof.Rows.boot_zip (PyProof.Rows.callWith_type1 (thn (ha.run pos pins s σ H _ I h) fun us s1 ⟨vs, H1, I1, r1, s1', s2', n1, n2, ex, l1, l2, q⟩ => ?_) hs hpl))⟩
  subst ex
  cases r1 with
  | cons ra rr =>
    cases rr with
    | cons rb rr =>
      cases rr
      obtain ⟨o1, Hb1, B1, hb1, f1, g1⟩ := Src.begins I1 l1 ra
      obtain ⟨o2, Hb2, B2, hb2, f2, g2⟩ := Src.begins I1 l2 rb
      have le : ∀ k, s1.heap.objs.size ≤ s1.heap.objs.size + k := fun k => Nat.le_add_right _ k
      refine zip_begins2 B1 B2 hb1 hb2 fun h' hz hTI hTO h1 h2 hsz hk => wpAny_pyIter_zip hz ?_
      have D : SepG s1' s2' (s1.heap.objs.size + 4) (s1.heap.objs.size + 2) (s1.heap.objs.size + 3) s1.heap.objs.size (s1.heap.objs.size + 1) :=
        ⟨show (s1.heap.objs.size + 2 : Nat) ≠ s1.heap.objs.size + 4 by omega, show (s1.heap.objs.size + 3 : Nat) ≠ s1.heap.objs.size + 4 by omega, show (s1.heap.objs.size : Nat) ≠ s1.heap.objs.size + 4 by omega, show (s1.heap.objs.size + 1 : Nat) ≠ s1.heap.objs.size + 4 by omega,
          show (s1.heap.objs.size + 2 : Nat) ≠ s1.heap.objs.size + 3 by omega, show (s1.heap.objs.size + 2 : Nat) ≠ s1.heap.objs.size by omega, show (s1.heap.objs.size + 2 : Nat) ≠ s1.heap.objs.size + 1 by omega, show (s1.heap.objs.size + 3 : Nat) ≠ s1.heap.objs.size by omega, show (s1.heap.objs.size + 3 : Nat) ≠ s1.heap.objs.size + 1 by omega, show (s1.heap.objs.size : Nat) ≠ s1.heap.objs.size + 1 by omega,
          fun c hc => g1 c (by rcases hc with rfl | rfl | rfl | rfl <;> first | exact le _ | exact Nat.le_refl _), fun c hc => g2 c (by rcases hc with rfl | rfl | rfl | rfl <;> first | exact le _ | exact Nat.le_refl _)⟩
      refine ⟨_, [s1.heap.objs.size + 4, s1.heap.objs.size + 2, s1.heap.objs.size + 3, s1.heap.objs.size, s1.heap.objs.size + 1], _, _, H1, rfl, I1.kept (t' := s1.toks) hk, turn_zipG D, ⟨hz, hTI, ⟨_, _, hTO⟩, f1 _ _ h1, f2 _ _ h2⟩, fun c hc => ?_, q⟩
      have lec : s1.heap.objs.size ≤ c := by
        have five : c = s1.heap.objs.size + 4 ∨ c = s1.heap.objs.size + 2 ∨ c = s1.heap.objs.size + 3 ∨ c = s1.heap.objs.size ∨ c = s1.heap.objs.size + 1 := by simpa using hc
        rcases five with rfl | rfl | rfl | rfl | rfl <;> first | exact le _ | exact Nat.le_refl _
      exact I1.fpOk lec (I1.hok.fresh lec)
end Zd

namespace Zd
open PySem PySem.Spec PyProof.Rows L2

/-- enumerate(v) -/
theorem meets_enum1 {v : Value} {o : Obj} {H : Heap → Prop} (B : Begins v o H) :
    Meets (Builtin.«enumerate.__new__» ⟨[.type "enumerate", v], []⟩) (fun _ R s => H s.heap ∧
      R (.ok (.ret (.ref (s.heap.objs.size + 1)))) { s with heap := (s.heap.push o).push { cls := .type "enumerate", data := .fields #[.none, .bool false, .ref s.heap.objs.size, rawInt 0, .none, .none] } }) :=
  .of_wp fun prog w A R s ⟨h1, h⟩ => by
    obtain ⟨hp, g, d, tk, os⟩ := s
    change R (.ok (.ret (.ref (hp.objs.size + 1)))) _ at h
    have hsub := sub_enumerate
    have hz : (hp.push o).objs.size = hp.objs.size + 1 := Heap.size_push ..
    rw [← hz] at h
    have begin_ : ∀ {A' : Around} {E : Value → Shared → Prop} {Q : Value → Shared → Prop}, Q (.ref hp.objs.size) ⟨hp.push o, g, d, tk, os⟩ → wpAny (model prog w) A' (pyIter v) Q E ⟨hp, g, d, tk, os⟩ :=
      fun q => B.iter prog w _ _ ⟨hp, g, d, tk, os⟩ _ h1 q
    wp_walk using begin_
    refine wpAny_stack_any fun st => wpAny_pure ?_
    split
    · rename_i c _ _ _ _ _
      cases (c == Value.type "enumerate") <;> (wp_walk using begin_) <;> exact ⟨_, rfl, h⟩
    · wp_walk using begin_
      exact ⟨_, rfl, h⟩
def IteG (K : PySem.W.Frag) (s1 : Src) : It :=
  ⟨fun i H => ∃ n, s1.len K H n ∧ i < n, fun i H v H' => ∃ T x, v = .ref T ∧ H T = none ∧ H' = upd H T (.tup [.int (i : Nat), x]) ∧ ∀ z, s1.has K H i z → x = z, fun i H => s1.len K H i⟩
theorem turn_enumG {P : Program} {w : World} {K : PySem.W.Frag} {elts : List Expr} {kk : Nat} {tpos : Pos} {s1 : Src} {e it : Addr} (ne : e ≠ it) (o1 : s1.off e) (o2 : s1.off it) :
    Turn P w K (.Tuple elts kk tpos) (IteG K s1) [e, it] e (fun i h => (∃ old, IsEnum h e it ((i : Nat) : Int) old) ∧ s1.itr it i h) where
  mem := by simp
  obj := fun i h ⟨⟨old, he⟩, h1⟩ c hc => by
    have two : c = e ∨ c = it := by simpa using hc
    rcases two with rfl | rfl
    · exact ⟨_, he, nofun⟩
    · exact Src.itr_obj h1
  keep := fun i h h' ⟨⟨old, he⟩, h1⟩ k => ⟨⟨old, k e (by simp) _ he⟩, Src.itr_keep h1 fun o q => k it (by simp) o q⟩
  item := by
    rintro X rfl rfl rfl hc i pins s σ H E I hf ⟨⟨old, he⟩, h1⟩ ⟨n, l1, lt1⟩
    obtain ⟨P1, St1, D1, t1, g1, f1⟩ := (Src.dr I hc l1 h1 o2).dr
    refine wpAny_pyNext_enum_itemD D1 he t1 lt1 ne (Src.nofp ne o1) fun u h' tk p1 eo q1 hT hsz hk => ⟨_, rfl, wpAny_letOwnedTupleGo_enum (s := { s with heap := h', toks := tk + 1 }) eo fun h'' e'' sb => ?_⟩
    obtain ⟨x, rx, hx⟩ := g1 u p1
    have nel : s.heap.objs.size ≠ e := Nat.ne_of_gt (Heap.lt_size he)
    have nit : s.heap.objs.size ≠ it := by obtain ⟨o, q, _⟩ := Src.itr_obj h1; exact Nat.ne_of_gt (Heap.lt_size q)
    have hT2 : h''.get? s.heap.objs.size = some { cls := .type "tuple", data := .seq #[.int i tk, u] } := (sb.2 _ nel).trans hT
    have new : ObjOk X.prog X.w (upd H s.heap.objs.size (.tup [.int (i : Nat), x])) h'' s.heap.objs.size (.tup [.int (i : Nat), x]) := ⟨show 2 ≤ sizeLine by decide, [.int i tk, u], .cons ⟨_, rfl⟩ (.cons rx .nil), ⟨_, hT2, rfl, _, rfl⟩⟩
    have k2 : ∀ b o, b ∉ [e, it] → s.heap.get? b = some o → h''.get? b = some o := fun b o hb q => (sb.2 b fun z => hb (by simp [z])).trans (hk b o (fun z => hb (by simp [z])) (fun z => hb (by simp [z])) q)
    refine ⟨.ref s.heap.objs.size, _, I.turnedNew (t' := tk + 1) (ch := [e, it]) k2 hf (Nat.le_refl _) new, rfl, ⟨_, x, rfl, I.hok.fresh (Nat.le_refl _), rfl, fun _ q => Src.inj I hx q⟩, ⟨⟨u, ?_⟩, Src.itr_keep (f1 _ _ q1) fun o q => (sb.2 it (Ne.symm ne)).trans q⟩, fun c hc' => ?_⟩
    · have cast : ((i + 1 : Nat) : Int) = (i : Int) + 1 := by omega
      rw [cast]
      exact e''
    · have two : c = e ∨ c = it := by simpa using hc'
      have nc : c ≠ s.heap.objs.size := by
        rcases two with rfl | rfl
        · exact nel.symm
        · exact nit.symm
      rw [upd_ne nc]
      exact (hf c hc').1
  done := by
    rintro X rfl rfl rfl hc i pins s σ H E I hf ⟨⟨old, he⟩, h1⟩ l1
    obtain ⟨P1, St1, D1, t1, g1, f1⟩ := (Src.dr I hc l1 h1 o2).dr
    obtain ⟨f0, f1', f2, f3, f4, f5⟩ := hf it (by simp)
    exact wpAny_pyNext_enum_endD D1 he t1 fun h' eb => ⟨rfl, I.turned (t' := s.toks) (fun b o hb q => eb b o hb q) f0 f1' f3 f4 f5⟩
  self := fun A i s Q E st h => let ⟨⟨_, he⟩, _⟩ := st; wpAny_pyIter_enum he h
def iEnumG (K : PySem.W.Frag) (ta : TA) : TI := fun σ H R => ta σ H fun vs H1 => ∃ (s1 : Src) (n : Nat), vs = [s1.v] ∧ s1.len K H1 n ∧ R (IteG K s1) H1
theorem pi_enumG {X : Cx} {e : Expr} {ta : TA} {p pos tpos : Pos} {elts : List Expr} {kk : Nat} (hg : Gl X "enumerate") (hm : X.mg "enumerate" = none) (ha : PA X [e] ta) (hs : starEach [e] X.env = [(false, eval e X.env)] := by rfl) :
    PI X (.Tuple elts kk tpos) (.Call (.Name "enumerate" p) [e] [] pos) (iEnumG X.K ta) := by
  refine ⟨fun pins s σ H R I h => Call_ (ld_blt I hg hm boot_enumerate (PyProof.Rows.callWith_type1 (thn (ha.run pos pins s σ H _ I h) fun us s1 ⟨vs, H1, I1, r1, s1', n, ex, l1, q⟩ => ?_) hs rfl))⟩
  subst ex
  cases r1 with
  | cons ra rr =>
    cases rr
    obtain ⟨o1, Hb1, B1, hb1, f1, g1⟩ := Src.begins I1 l1 ra
    refine callType_new F.called_enumerate (by decide) (F.typeCall_enumerate_1 _) (F.newCall_enumerate_1 _) (fun obj => F.args_object_init_2 obj _) F.entry_enumerate_new (meets_enum1 B1) ⟨hb1, ?_⟩
    have hz : (s1.heap.push o1).objs.size = s1.heap.objs.size + 1 := Heap.size_push ..
    have he : IsEnum ((s1.heap.push o1).push { cls := .type "enumerate", data := .fields #[.none, .bool false, .ref s1.heap.objs.size, rawInt 0, .none, .none] }) (s1.heap.objs.size + 1) s1.heap.objs.size 0 .none := by
      have g := Heap.get?_push_size (s1.heap.push o1) (o := { cls := .type "enumerate", data := .fields #[.none, .bool false, .ref s1.heap.objs.size, rawInt 0, .none, .none] }) rfl
      rw [hz] at g
      exact g
    have k2 : ∀ b o, s1.heap.get? b = some o → ((s1.heap.push o1).push { cls := .type "enumerate", data := .fields #[.none, .bool false, .ref s1.heap.objs.size, rawInt 0, .none, .none] }).get? b = some o := fun b o x => Heap.get?_push_of_some _ (Heap.get?_push_of_some _ x)
    refine ⟨⟨_, he, rfl⟩, wpAny_pyIter_enum he ⟨s1.heap.objs.size + 1, [s1.heap.objs.size + 1, s1.heap.objs.size], _, _, H1, rfl, I1.kept (t' := s1.toks) k2, turn_enumG (Nat.succ_ne_self _) (g1 _ (Nat.le_succ _)) (g1 _ (Nat.le_refl _)), ⟨⟨.none, he⟩, f1 _ _ (Heap.get?_push_of_some _ (Heap.get?_push_size _ B1.free))⟩, fun b hb => ?_, q⟩⟩
    have le : s1.heap.objs.size ≤ b := by
      have two : b = s1.heap.objs.size + 1 ∨ b = s1.heap.objs.size := by simpa using hb
      rcases two with rfl | rfl
      · exact Nat.le_succ _
      · exact Nat.le_refl _
    exact I1.fpOk le (I1.hok.fresh le)
end Zd

namespace Zd
open PySem PySem.Spec PyProof.Rows L2

section
variable {Z : Cz} {Er : ErW} {O : List Nat} {vs : Option (List Nat)} {te ta tb tc : TE} {tt tu : TT} {m m1 m2 m3 : Env → M Dat} {mb mc : Env → M Bool} {tl : TA} {ml : Env → M (List Dat)}
def signs (x : Str) : List Dat := x.cps.toList.map fun c => .str ⟨#[c]⟩
def itemsG : Dat → Option (List Dat)
  | .lst ds => some ds
  | .tup ds => some ds
  | .str x => some (signs x)
  | _ => none
def Src.Of (Z : Cz) (H : Hp) (p : Pl) (s : Src) (ds : List Dat) : Prop := s.len Z.K H ds.length ∧ ∀ i d, ds[i]? = some d → ∃ x, s.has Z.K H i x ∧ IsD Z H p x d
theorem src_of {H : Hp} {p : Pl} {v : V} {d : Dat} {ds : List Dat} (h : IsD Z H p v d) (e : itemsG d = some ds) : ∃ s : Src, v = s.v ∧ ∀ H' p', Ext H p H' p' → s.Of Z H' p' ds := by
  cases d with
  | lst xs =>
    cases e
    obtain ⟨a, us, rfl, h1, h2⟩ := isD_lst.mp h
    refine ⟨.li a, rfl, fun H' p' ex => ⟨⟨us, (h1.ext ex).sq, h2.len⟩, fun i d hi => ?_⟩⟩
    obtain ⟨x, g1, g2⟩ := (h2.ext ex).get hi
    exact ⟨x, ⟨us, (h1.ext ex).sq, g1⟩, g2⟩
  | tup xs =>
    cases e
    obtain ⟨a, us, rfl, h1, h2⟩ := isD_tup.mp h
    refine ⟨.tu a, rfl, fun H' p' ex => ⟨⟨us, (h1.ext ex).sq, h2.len⟩, fun i d hi => ?_⟩⟩
    obtain ⟨x, g1, g2⟩ := (h2.ext ex).get hi
    exact ⟨x, ⟨us, (h1.ext ex).sq, g1⟩, g2⟩
  | str x =>
    cases e
    refine ⟨.tx x, isD_str.mp h, fun H' p' ex => ⟨by show x.cps.size = (signs x).length; unfold signs; rw [List.length_map, Array.length_toList], fun i d hi => ?_⟩⟩
    unfold signs at hi
    rw [List.getElem?_map, Array.getElem?_toList] at hi
    cases q : x.cps[i]? with
    | none => rw [q] at hi; cases hi
    | some c => rw [q] at hi; cases hi; exact ⟨_, ⟨c, q, rfl⟩, isD_str.mpr rfl⟩
  | _ => cases e
theorem walks_zipG {X : XR} (x : XOk X) {H : Hp} {p : Pl} {s1 s2 : Src} {xs ys : List Dat} (h1 : ∀ H' p', Ext H p H' p' → s1.Of Z H' p' xs) (h2 : ∀ H' p', Ext H p H' p' → s2.Of Z H' p' ys) : Walks Z X (ItzG Z.K s1 s2) (zipD xs ys) H p := fun H1 p1 S1 i e s => by
  obtain ⟨l1, g1⟩ := h1 H1 p1 (x.s e)
  obtain ⟨l2, g2⟩ := h2 H1 p1 (x.s e)
  rw [zip_len]
  refine ⟨fun lt => ?_, fun le => ⟨_, _, l1, l2, by omega, by omega, by omega⟩⟩
  have i1 : i < xs.length := by omega
  have i2 : i < ys.length := by omega
  obtain ⟨u, a1, b1⟩ := g1 i _ (List.getElem?_eq_getElem i1)
  obtain ⟨w, a2, b2⟩ := g2 i _ (List.getElem?_eq_getElem i2)
  refine ⟨⟨_, _, l1, l2, i1, i2⟩, fun y H' ⟨t, v', w', ev, nt, eH, f1, f2⟩ => ?_⟩
  subst ev eH
  cases f1 u a1
  cases f2 w a2
  exact ⟨same_new nt, _, zip_at i1 i2, new_tup s nt (isDs_cons.mpr ⟨_, _, rfl, b1, .one b2⟩)⟩
def iZipM (l : Env → M (List Dat)) (ρ : Env) : M (List Dat) := l ρ >>= fun ds => match ds with
  | [a, b] => M.opt (itemsG a) >>= fun xs => M.opt (itemsG b) >>= fun ys => pure (zipD xs ys)
  | _ => M.no
theorem ji_zipG {X : XR} (x : XOk X) (hl : JA Z Er O tl ml) : JI Z Er O X (iZipG Z.K tl) (iZipM ml) := fun σ H p ρ S R hE hS q =>
  hl σ H p ρ S _ hE hS ((q.bnd xE).mono fun ds S1 H1 p1 e1 s1 q1 vs hv => by
    split at q1
    · obtain ⟨v, w, rfl, h1, h2⟩ := isDs_two hv
      obtain ⟨xs, ex, q1⟩ := Post.opt q1
      obtain ⟨ys, ey, q1⟩ := Post.opt q1
      obtain ⟨a, rfl, k1⟩ := src_of h1 ex
      obtain ⟨b, rfl, k2⟩ := src_of h2 ey
      exact ⟨a, b, _, _, rfl, (k1 H1 p1 Ext.refl).1, (k2 H1 p1 Ext.refl).1, q1.pure xE s1 _ (walks_zipG x k1 k2)⟩
    · exact (bad_no (S := S1) q1).elim)
def enumD (xs : List Dat) : List Dat := (List.range xs.length).zip xs |>.map fun q => .tup [.int (q.1 : Int), q.2]
theorem enum_len {xs : List Dat} : (enumD xs).length = xs.length := by unfold enumD; simp
theorem enum_at {xs : List Dat} {i : Nat} {d : Dat} (h : xs[i]? = some d) : (enumD xs)[i]? = some (.tup [.int (i : Int), d]) := by
  unfold enumD
  rw [List.getElem?_map, List.getElem?_zip_eq_some (z := (i, d)) |>.mpr ⟨List.getElem?_range (List.getElem?_eq_some_iff.mp h).1, h⟩]
  rfl
theorem walks_enumG {X : XR} (x : XOk X) {H : Hp} {p : Pl} {s1 : Src} {xs : List Dat} (h1 : ∀ H' p', Ext H p H' p' → s1.Of Z H' p' xs) : Walks Z X (IteG Z.K s1) (enumD xs) H p := fun H1 p1 S1 i e s => by
  obtain ⟨l1, g1⟩ := h1 H1 p1 (x.s e)
  rw [enum_len]
  refine ⟨fun lt => ?_, fun le => by subst le; exact l1⟩
  obtain ⟨u, a1, b1⟩ := g1 i _ (List.getElem?_eq_getElem lt)
  refine ⟨⟨_, l1, lt⟩, fun y H' ⟨t, v', ev, nt, eH, f1⟩ => ?_⟩
  subst ev eH
  cases f1 u a1
  exact ⟨same_new nt, _, enum_at (List.getElem?_eq_getElem lt), new_tup s nt (isDs_cons.mpr ⟨_, _, rfl, isD_int.mpr rfl, .one b1⟩)⟩
def iEnM (l : Env → M (List Dat)) (ρ : Env) : M (List Dat) := l ρ >>= fun ds => match ds with
  | [a] => M.opt (itemsG a) >>= fun xs => pure (enumD xs)
  | _ => M.no
theorem ji_enumG {X : XR} (x : XOk X) (hl : JA Z Er O tl ml) : JI Z Er O X (iEnumG Z.K tl) (iEnM ml) := fun σ H p ρ S R hE hS q =>
  hl σ H p ρ S _ hE hS ((q.bnd xE).mono fun ds S1 H1 p1 e1 s1 q1 vs hv => by
    split at q1
    · obtain ⟨v, rfl, h1⟩ := isDs_one hv
      obtain ⟨xs, ex, q1⟩ := Post.opt q1
      obtain ⟨a, rfl, k1⟩ := src_of h1 ex
      exact ⟨a, _, rfl, (k1 H1 p1 Ext.refl).1, q1.pure xE s1 _ (walks_enumG x k1)⟩
    · exact (bad_no (S := S1) q1).elim)
/-- the signs of a text -/
theorem walks_str {X : XR} {H : Hp} {p : Pl} {x : Str} : Walks Z X (Its x) (signs x) H p := fun H1 p1 S1 i e s => by
  have el : (signs x).length = x.cps.size := by unfold signs; rw [List.length_map, Array.length_toList]
  rw [el]
  refine ⟨fun lt => ⟨lt, fun y H' ⟨eH, c, h1, h2⟩ => ?_⟩, fun le => Nat.le_of_eq le⟩
  subst eH h2
  refine ⟨Same.refl _, .str ⟨#[c]⟩, ?_, isD_str.mpr rfl⟩
  unfold signs
  rw [List.getElem?_map, Array.getElem?_toList, h1]
  rfl
def iStrM (a : Env → M Dat) (ρ : Env) : M (List Dat) := a ρ >>= fun d => M.opt (sT d) >>= fun x => pure (signs x)
theorem ji_str {X : XR} (ha : JD Z Er O ta m1) : JI Z Er O X (iStr ta) (iStrM m1) := fun σ H p ρ S R hE hS q =>
  ha σ H p ρ S _ hE hS ((q.bnd xE).mono fun d S1 H1 p1 e1 s1 q1 v hv => by
    obtain ⟨x, ex, q1⟩ := Post.opt q1
    rw [sT_is ex] at hv
    exact ⟨x, isD_str.mp hv, q1.pure xE s1 _ walks_str⟩)
end
end Zd

namespace Zd
open PySem PySem.Spec PyProof.Rows L2

/-! ### d.update(e) -/
section
variable {X : Cx} {a b c d e o : Expr} {pos apos cpos : Pos} {ta tb tc td ty : TE}
def tDUpd (td ty : TE) : TE := fun σ H Q => td σ H fun x H1 => ∃ a, x = .ref a ∧ L2.IsD H1 a ∧ ty σ H1 fun y H2 => ∃ b kvs more, y = .ref b ∧ a ≠ b ∧ H2 a = some (.dK kvs) ∧ H2 b = some (.dK more) ∧ kvs.length + more.length ≤ sizeLine ∧ Q .non (upd H2 a (.dK (mergeK kvs more)))
theorem pe_dupd (ho : PE X o td) (he : PE X e ty) (m : M1 X o "update" apos e cpos) : PE X (.Call (.Attribute o "update" apos) [e] [] cpos) (tDUpd td ty) := by
  refine ⟨fun pins s σ H Q I h => wpAny_Call_method m.base m.few m.line PySem.F.plainAttrs_dict PySem.F.slot_dict_update PySem.F.type_dict_update (thn (ho.run pins s σ H _ I h) fun u s1 ⟨x, H1, I1, rx, a, ex, da, q1⟩ => ?_)⟩
  subst ex
  cases (show u = Value.ref a from rx)
  obtain ⟨t1, t2, _⟩ := isD_at I1 da
  refine ⟨t1, t2, ?_⟩
  rw [m.trees]
  refine Calls.callWith_builtin rfl (Calls.evalArgs_plain (Calls.spliced_cons (thn (he.run pins s1 σ H1 _ I1 q1) fun iv s2 ⟨y, H2, I2, ry, b, kvs, more, ey, ne, ea, eb, lk, q2⟩ => Calls.spliced_nil ?_)))
  subst ey
  cases (show iv = Value.ref b from ry)
  obtain ⟨za, ha, vs, ra, da⟩ := dk_of I2.hok ea
  obtain ⟨zb, hb, ws, rb, db⟩ := dk_of I2.hok eb
  refine call_meetsIn PySem.F.slot_dict_update da.typeIs PySem.F.entry_dict_update (PySem.F.args_dict_update_2 _ _) (meets_dict_update (mixKind X.prog X.w) a b ne hb) ⟨vs, ws, da, db, by rw [← ra.length, ← rb.length]; exact lk, fun h' d1 d2 hs => ?_⟩
  have he : ∃ q, h'.get? a = some q := let ⟨q, _, _, hq, _⟩ := d1; ⟨q, hq⟩
  have hz : (mergeK kvs more).length ≤ sizeLine := Nat.le_trans (length_mergeK more kvs) lk
  exact ⟨.non, _, d_write (t' := s2.toks) I2 (by rw [ea]; exact True.intro) hs he (dk_new hz ha (rb.merge ra) d1), rfl, q2⟩
end

section
variable {Z : Cz} {Er : ErW} {O : List Nat} {vs : Option (List Nat)} {te ta tb tc : TE} {tt tu : TT} {m m1 m2 m3 : Env → M Dat} {mb mc : Env → M Bool} {tl : TA} {ml : Env → M (List Dat)} {ts tr : TS} {ms mr : Env → M Flow}

/-! ### f'..', join -/
def dFmt (d : Dat) : M Dat := match d with
  | .str x => M.need (decide (x.length ≤ 100000)) >>= fun _ => pure (.str x)
  | .int i => M.need (decide (i.natAbs.log2 < 1920)) >>= fun _ => pure (.str (toString i))
  | _ => M.no
theorem j_fmt (h : JD Z Er O te m) : JD Z Er O (tFmt te) (xUn dFmt m) := fun σ H p ρ S Q hE hS q =>
  h σ H p ρ S _ hE hS ((q.bnd xE).mono fun d S1 H1 p1 e1 s1 q1 v hv => by
    unfold dFmt at q1
    split at q1
    · obtain ⟨c, q1⟩ := Post.need q1
      exact .inl ⟨_, isD_str.mp hv, lim (of_decide_eq_true c), q1.pure xE s1 _ (isD_str.mpr rfl)⟩
    · obtain ⟨c, q1⟩ := Post.need q1
      exact .inr ⟨_, isD_int.mp hv, of_decide_eq_true c, q1.pure xE s1 _ (isD_str.mpr rfl)⟩
    · exact (bad_no (S := S1) q1).elim)
def xJs : List (Env → M Dat) → Str → Env → M Str
  | [], acc, _ => pure acc
  | m :: r, acc, ρ => m ρ >>= fun d => M.opt (sT d) >>= fun y => M.need (decide ((acc ++ y).length ≤ 100000)) >>= fun _ => xJs r (acc ++ y) ρ
inductive JJ (Z : Cz) (Er : ErW) (O : List Nat) : List TE → List (Env → M Dat) → Prop where
  | nil : JJ Z Er O [] []
  | cons {t : TE} {m : Env → M Dat} {ts : List TE} {ms : List (Env → M Dat)} (h : JD Z Er O t m) (r : JJ Z Er O ts ms) : JJ Z Er O (t :: ts) (m :: ms)
theorem jj_run {ts : List TE} {ms : List (Env → M Dat)} (h : JJ Z Er O ts ms) : ∀ (acc : Str) (σ : L2.St) (H : Hp) (p : Pl) (ρ : Env) (S : List Dat) (Q : Str → Hp → Prop), IsE Z O H p σ ρ → IsS Z H p S → Post Z Er ExtE (xJs ms acc ρ S) H p (fun y _ H' p' => Q y H') → tJs ts acc σ H Q := by
  induction h with
  | nil => exact fun acc σ H p ρ S Q hE hS q => q.pure xE hS
  | cons h r ih => exact fun acc σ H p ρ S Q hE hS q => h σ H p ρ S _ hE hS ((q.bnd xE).mono fun d S1 H1 p1 e1 s1 q1 v hv => by
      obtain ⟨y, ey, q1⟩ := Post.opt q1
      rw [sT_is ey] at hv
      obtain ⟨c, q1⟩ := Post.need q1
      exact ⟨y, isD_str.mp hv, lim (of_decide_eq_true c), ih _ σ H1 p1 ρ S1 _ (hE.ext e1 hS) s1 q1⟩)
def xJoined (l : List (Env → M Dat)) (ρ : Env) : M Dat := xJs l Str.empty ρ >>= fun y => pure (.str y)
theorem j_joined {ts : List TE} {ms : List (Env → M Dat)} (h : JJ Z Er O ts ms) : JD Z Er O (fun σ H Q => tJs ts Str.empty σ H fun out H1 => Q (.str out) H1) (xJoined ms) := fun σ H p ρ S Q hE hS q =>
  jj_run h _ σ H p ρ S _ hE hS ((q.bnd xE).mono fun y S1 H1 p1 e1 s1 q1 => q1.pure xE s1 _ (isD_str.mpr rfl))
def strsD : List Dat → Option (List Str)
  | [] => some []
  | .str x :: r => (strsD r).map (x :: ·)
  | _ => none
theorem strsD_is {H : Hp} {p : Pl} : ∀ {ds : List Dat} {vs : List V} {xs : List Str}, IsDs Z H p vs ds → strsD ds = some xs → vs = xs.map V.str
  | [], _, _, h, e => by cases e; exact isDs_nil.mp h
  | d :: ds, _, bs, h, e => by
    obtain ⟨v, r, rfl, h1, h2⟩ := isDs_cons.mp h
    cases d with
    | str b =>
      unfold strsD at e
      cases z : strsD ds with
      | none => rw [z] at e; cases e
      | some cs =>
        rw [z] at e
        cases e
        rw [isD_str.mp h1, strsD_is h2 z]
        rfl
    | _ => cases e
def xJoin (m1 m2 : Env → M Dat) (ρ : Env) : M Dat := m1 ρ >>= fun a => M.opt (sT a) >>= fun x => m2 ρ >>= fun b => M.opt (dLst b) >>= fun l => M.opt (strsD l) >>= fun ys => M.need (decide ((ys.map (·.length)).sum + ys.length * x.length ≤ 16777216)) >>= fun _ => pure (.str (Txt.join x ys))
theorem j_join (h1 : JD Z Er O ta m1) (h2 : JD Z Er O tb m2) : JD Z Er O (tM1 (fun x xs H Q => ∃ a p, ∃ ys : List Str, x = .str a ∧ xs = [.ref p] ∧ (SqL Z.K H p (ys.map V.str) ∨ SqT Z.K H p (ys.map V.str)) ∧
      (ys.map (·.length)).sum + ys.length * a.length ≤ 16777216 ∧ Q (.str (Txt.join a ys)) H) ta tb) (xJoin m1 m2) := fun σ H p ρ S Q hE hS q =>
  h1 σ H p ρ S _ hE hS ((q.bnd xE).mono fun d S1 H1 p1 e1 s1 q1 v hv => by
    obtain ⟨x, ex, q1⟩ := Post.opt q1
    rw [sT_is ex] at hv
    refine ⟨⟨x, isD_str.mp hv⟩, h2 σ H1 p1 ρ S1 _ (hE.ext e1 hS) s1 ((q1.bnd xE).mono fun e S2 H2 p2 e2 s2 q3 w hw => ?_)⟩
    obtain ⟨l, el, q3⟩ := Post.opt q3
    obtain ⟨ys, ey, q3⟩ := Post.opt q3
    obtain ⟨c, q3⟩ := Post.need q3
    rw [dLst_some el] at hw
    obtain ⟨a, us, rfl, g1, g2⟩ := isD_lst.mp hw
    rw [strsD_is g2 ey] at g1
    exact ⟨x, a, ys, isD_str.mp hv, rfl, .inl g1.sq, of_decide_eq_true c, q3.pure xE s2 _ (isD_str.mpr rfl)⟩)
/-! ### truth -/
def truD : Dat → Option Bool
  | .non => some false
  | .bl b => some b
  | .int i => some (i != 0)
  | .tup ds => some (!ds.isEmpty)
  | .lst ds => some (!ds.isEmpty)
  | _ => none
def bTru (a : Env → M Dat) (ρ : Env) : M Bool := a ρ >>= fun d => M.opt (truD d)
theorem emp {α β : Type} {xs : List α} {ys : List β} (h : xs.length = ys.length) : (!xs.isEmpty) = !ys.isEmpty := by
  cases xs <;> cases ys <;> first | rfl | cases h
theorem jb_tru (ha : JD Z Er O ta m1) : JB Z Er O (fun σ H Q => ta σ H fun x H' => ∃ k, TruV Z.K x H' k ∧ Q k H') (bTru m1) := fun σ H p ρ S Q hE hS q =>
  ha σ H p ρ S _ hE hS ((q.bnd xE).mono fun d S1 H1 p1 e1 s1 q1 v hv => by
    obtain ⟨b, e, k⟩ := opt_pure xE q1 s1
    refine ⟨b, ?_, k b rfl⟩
    cases d with
    | non => cases e; rw [isD_non.mp hv]; rfl
    | bl b => cases e; rw [isD_bl.mp hv]; rfl
    | int i => cases e; rw [isD_int.mp hv]; rfl
    | tup ds => cases e; obtain ⟨a, vs, rfl, g1, g2⟩ := isD_tup.mp hv; exact .inr (.inl ⟨vs, g1.sq, (emp g2.len).symm⟩)
    | lst ds => cases e; obtain ⟨a, vs, rfl, g1, g2⟩ := isD_lst.mp hv; exact .inl ⟨vs, g1.sq, (emp g2.len).symm⟩
    | _ => cases e)
/-! ### {k: v, ..} -/
def IsPs (Z : Cz) (H : Hp) (p : Pl) (vs : List (V × V)) (ps : List (Dat × Dat)) : Prop := IsDs Z H p (vs.map (·.1)) (ps.map (·.1)) ∧ IsDs Z H p (vs.map (·.2)) (ps.map (·.2))
inductive JPs (Z : Cz) (Er : ErW) (O : List Nat) : List (TE × TE) → List ((Env → M Dat) × (Env → M Dat)) → Prop where
  | nil : JPs Z Er O [] []
  | cons {t u : TE} {m n : Env → M Dat} {ts : List (TE × TE)} {ms : List ((Env → M Dat) × (Env → M Dat))} (h : JD Z Er O t m) (g : JD Z Er O u n) (r : JPs Z Er O ts ms) : JPs Z Er O ((t, u) :: ts) ((m, n) :: ms)
theorem jps_run {ts : List (TE × TE)} {ms : List ((Env → M Dat) × (Env → M Dat))} (h : JPs Z Er O ts ms) : ∀ (σ : L2.St) (H : Hp) (p : Pl) (ρ : Env) (S : List Dat) (Q : List (V × V) → Hp → Prop), IsE Z O H p σ ρ → IsS Z H p S → Post Z Er ExtE (xPairs ms ρ S) H p (fun ps _ H' p' => ∀ vs, IsPs Z H' p' vs ps → Q vs H') → tPairs ts σ H Q := by
  induction h with
  | nil => exact fun σ H p ρ S Q hE hS q => q.pure xE hS [] ⟨isDs_nil.mpr rfl, isDs_nil.mpr rfl⟩
  | cons h g r ih => exact fun σ H p ρ S Q hE hS q => h σ H p ρ S _ hE hS ((q.bnd xE).mono fun d S1 H1 p1 e1 s1 q1 v hv => g σ H1 p1 ρ S1 _ (hE.ext e1 hS) s1 ((q1.bnd xE).mono fun e S2 H2 p2 e2 s2 q2 w hw =>
      ih σ H2 p2 ρ S2 _ ((hE.ext e1 hS).ext e2 s1) s2 ((q2.bnd xE).mono fun l S3 H3 p3 e3 s3 q3 vs ⟨k1, k2⟩ => q3.pure xE s3 ((v, w) :: vs) ⟨isDs_cons.mpr ⟨v, _, rfl, hv.ext (e2.trans e3).s, k1⟩, isDs_cons.mpr ⟨w, _, rfl, hw.ext e3.s, k2⟩⟩)))
theorem keys_is {H : Hp} {p : Pl} : ∀ {ps : List (Dat × Dat)} {vs : List (V × V)} {ks : List Key}, IsPs Z H p vs ps → keysD ps = some ks → vs = (ks.zip (vs.map (·.2))).map (fun kv => (kV kv.1, kv.2)) ∧ ks.length = vs.length
  | [], vs, _, ⟨h, _⟩, e => by
    cases e
    cases vs with
    | nil => exact ⟨rfl, rfl⟩
    | cons _ _ => exact absurd (isDs_nil.mp h) nofun
  | (a, b) :: ps, vs, ks, ⟨h1, h2⟩, e => by
    cases vs with
    | nil => obtain ⟨_, _, z, _⟩ := isDs_cons.mp h1; cases z
    | cons v vs =>
      obtain ⟨x, r, z, g1, g2⟩ := isDs_cons.mp h1
      obtain ⟨y, r', z', g1', g2'⟩ := isDs_cons.mp h2
      cases z
      cases z'
      unfold keysD at e
      cases ek : keyD a with
      | none => rw [ek] at e; cases e
      | some k =>
        cases er : keysD ps with
        | none => rw [ek, er] at e; cases e
        | some kr =>
          rw [ek, er] at e
          cases e
          obtain ⟨q1, q2⟩ := keys_is (ps := ps) ⟨g2, g2'⟩ er
          refine ⟨?_, congrArg (· + 1) q2⟩
          rw [List.map_cons, List.zip_cons_cons, List.map_cons, ← q1, ← keyD_is g1 ek]
theorem val_no {k : Key} : ∀ {ks : List Key} {vs : List V}, ks.any (fun g => decide (g = k)) = false → valV (ks.zip vs) k = none
  | [], _, _ => rfl
  | g :: ks, [], _ => rfl
  | g :: ks, v :: vs, h => by
    rw [List.any_cons, Bool.or_eq_false_iff] at h
    rw [List.zip_cons_cons, valV_neg (of_decide_eq_false h.1), val_no h.2]
theorem nd_app {ks ms : List Key} {k : Key} : noDup (ks ++ k :: ms) = true → ks.any (fun g => decide (g = k)) = false ∧ noDup ((ks ++ [k]) ++ ms) = true := by
  intro h
  refine ⟨?_, by rw [List.append_assoc]; exact h⟩
  induction ks with
  | nil => rfl
  | cons g ks ih =>
    rw [List.cons_append] at h
    unfold noDup at h
    rw [Bool.and_eq_true, Bool.not_eq_true', List.any_append, Bool.or_eq_false_iff, List.any_cons, Bool.or_eq_false_iff] at h
    rw [List.any_cons, Bool.or_eq_false_iff]
    refine ⟨decide_eq_false fun e => of_decide_eq_false h.1.2.1 e.symm, ih h.2⟩
theorem merge_new : ∀ {ms ks : List Key} {us vs : List V}, noDup (ks ++ ms) = true → ks.length = vs.length → ms.length = us.length → mergeK (ks.zip vs) (ms.zip us) = (ks ++ ms).zip (vs ++ us)
  | [], ks, us, vs, _, h1, h2 => by
    have e : us = [] := List.length_eq_zero_iff.mp h2.symm
    subst e
    rw [List.append_nil, List.append_nil]
    rfl
  | k :: ms, ks, [], vs, _, h1, h2 => by cases h2
  | k :: ms, ks, u :: us, vs, h, h1, h2 => by
    obtain ⟨n1, n2⟩ := nd_app h
    rw [List.zip_cons_cons]
    show mergeK (putK (ks.zip vs) k u) (ms.zip us) = _
    rw [putK_new u (val_no n1)]
    have e : ks.zip vs ++ [(k, u)] = (ks ++ [k]).zip (vs ++ [u]) := by rw [List.zip_append h1]; rfl
    rw [e, merge_new n2 (by simp [h1]) (Nat.succ.inj h2), List.append_assoc, List.append_assoc]
    rfl
theorem jf_disp {trs : List (TE × TE)} {ms : List ((Env → M Dat) × (Env → M Dat))} (h : JPs Z Er O trs ms) : JF Z Er O (tDisp trs) (xDisp ms) := fun σ H p ρ S Q hE hS q D nD => by
  obtain ⟨hE2, hS2⟩ := own_new (o := .dK []) hE hS nD
  have eN : ExtE H p (upd H D (.dK [])) p := ExtE.new nD
  refine jps_run h σ _ _ ρ S _ hE2 hS2 ((q.bndK.up xE eN).plus.mono fun ps S1 H1 p1 e1 s1 q1 vs hv => ?_)
  have mD : D ∈ p.ω ++ [D] := List.mem_append_right _ (List.mem_singleton.mpr rfl)
  have hD : H1 D = some (.dK []) := e1.k D _ upd_same (hS2.dj D mD).1
  obtain ⟨ks, ek, q1⟩ := Post.opt q1
  obtain ⟨c, q1⟩ := Post.need q1
  rw [Bool.and_eq_true, decide_eq_true_eq] at c
  obtain ⟨k1, k2⟩ := keys_is hv ek
  refine ⟨hD, ks.zip (vs.map (·.2)), k1, by rw [List.length_zip]; exact Nat.le_trans (Nat.min_le_left _ _) c.2, ?_⟩
  have mk : mergeK [] (ks.zip (vs.map (·.2))) = ks.zip (vs.map (·.2)) := by
    have := merge_new (ks := []) (vs := []) (ms := ks) (us := vs.map (·.2)) c.1 rfl (by rw [List.length_map]; exact k2)
    exact this
  rw [mk]
  have mD1 : D ∈ p1.ω := by rw [e1.ω]; exact mD
  have ePut : Ext H1 p1 (L2.upd H1 D (.dK (ks.zip (vs.map (·.2))))) p1 := ext_put mD1
  have sPut := s1.put (o := .dK (ks.zip (vs.map (·.2)))) mD1
  have ep : p1 = ⟨p1.α, p.ω ++ [D], p.γ⟩ := by
    have h1 := e1.ω
    have h2 := e1.γ
    cases p1
    cases h1
    cases h2
    rfl
  have nh : ¬ (⟨p1.α, p.ω, p.γ⟩ : Pl).has D := by
    rintro (h | h | h)
    · exact (s1.dj D mD1).1 h
    · exact hS.wt D (.inl h) nD
    · exact hS.wt D (.inr h) nD
  have ex : ExtE H p (L2.upd H1 D (.dK (ks.zip (vs.map (·.2))))) ⟨p1.α, p.ω, p.γ⟩ := by
    have z : ExtE H p H1 ⟨p1.α, p.ω, p.γ⟩ := eN.trans ⟨e1.α, rfl, rfl, e1.k, e1.t⟩
    exact ⟨z.α, rfl, rfl, fun a o h n => by rw [upd_ne (ne_of_none h nD)]; exact z.k a o h n, fun a n => by rw [upd_ne fun c => n (by rw [c]; exact nD)]; exact z.t a n⟩
  have sL : IsS Z (L2.upd H1 D (.dK (ks.zip (vs.map (·.2))))) ⟨p1.α, p.ω, p1.γ⟩ S1 := (sPut.less (ω := p.ω) fun a h => by rw [e1.ω]; exact List.mem_append_left _ h)
  have eg : p1.γ = p.γ := e1.γ
  rw [eg] at sL
  refine q1 _ _ ex sL D nD (by rw [upd_same]; exact nofun) nh (by rw [← ep]; exact sPut) ?_
  rw [← ep]
  exact ⟨_, upd_same, by rw [List.length_map]; exact k2, hv.2.ext ePut⟩
theorem j_disp {trs : List (TE × TE)} {ms : List ((Env → M Dat) × (Env → M Dat))} (h : JPs Z Er O trs ms) : JD Z Er O (tDisp trs) (xDisp ms) := (jf_disp h).d
end
end Zd

namespace Zd
open PySem PySem.Spec PyProof.Rows L2
open AutoSeq1 (wpAny_loadPart')

/-! ### == with dicts among what is compared -/
/-- its == says: not mine -/
def Mute (A : Around) (id : String) (s : Shared) (a b : Value) : Prop := ∀ (prog : Program) (w : World) (E : Value → Shared → Prop) (Q : Value → Shared → Prop), Q .notImplemented s → wpAny (model prog w) A (call (.builtin id) [a, b]) Q E s
/-- what is no float is asked so -/
def Plainly (A : Around) (s : Shared) (a b : Value) : Prop := ∀ (prog : Program) (w : World) (E : Value → Shared → Prop) (Q : Bool → Shared → Prop), wpAny (model prog w) A (richCompare .Eq a b) (fun v s' => wpAny (model prog w) A (truthOfDropped v) Q E s') E s → wpAny (model prog w) A (eqBool a b) Q E s
theorem eqAt_mute {s : Shared} {A : Around} {a b : Value} {T U i j : String} (pl : Plainly A s a b) (ha : s.TypeIs a T) (hb : s.TypeIs b U) (hTU : (Value.type T != Value.type U) = true) (hs : isSubtype (.type U) (.type T) = pure false) (h1 : Slot T (cmpInfo .Eq).2.1 i) (h2 : Slot U (cmpInfo .Eq).2.2 j)
    (m1 : Mute A i s a b) (m2 : Mute A j s b a) (sm : ∀ (prog : Program) (w : World) (E : Value → Shared → Prop) (Q : Bool → Shared → Prop), Q false s → wpAny (model prog w) A (isSame a b) Q E s) (hu : A.units < cLine) : SeqAt.EqAt A s a b false := fun prog w E Q q =>
  pl prog w E Q (SeqAt.rc_eq_decline_or (k := false) ha hb hTU hs h1 h2 (fun Q' q' => m1 prog w E Q' q') (fun Q' q' => m2 prog w E Q' q') (fun Q' q' => sm prog w E Q' q') (.inr hu) (wpAny_truthy_bool q))
/-- a dict lies there -/
def DAt (s : Shared) (d : Addr) : Prop := ∃ (dd : Option Addr) (es : Array DictEntry) (ep : Nat) (sl : Array (Option Value)), s.heap.get? d = some { cls := .type "dict", dict := dd, data := .dict es ep, slots := sl }
theorem DAt.ty {s : Shared} {d : Addr} (h : DAt s d) : s.TypeIs (.ref d) "dict" := let ⟨_, _, _, _, e⟩ := h; ⟨_, e, rfl⟩
theorem dict_mute {s : Shared} {A : Around} {d : Addr} {b : Value} {T : String} (hd : DAt s d) (hb : s.TypeIs b T) (hs : isSubtype (.type T) (.type "dict") = pure false) : Mute A "dict.__eq__" s (.ref d) b := fun prog w E Q q => by
  refine wpAny_call_entry PySem.F.slot_dict_eq hd.ty PySem.F.entry_dict_eq ?_ (PySem.F.args_dict_eq_2 _ _)
  change wpAny _ _ (Builtin.Dict.dictSlotArgs "__eq__" ⟨[.ref d, b], []⟩ >>= _) _ _ s
  refine wpAny_bind ?_
  unfold Builtin.Dict.dictSlotArgs
  refine wpAny_bind (wpAny_notOrdered_dict hd.ty ?_)
  change wpAny _ _ (pure (Value.ref d, b)) _ _ s
  refine wpAny_pure (wpAny_bind (wpAny_isInstance hb hs ?_))
  simp only [Bool.not_false, if_true]
  refine wpAny_bind (wpAny_rule ?_)
  exact wpAny_pure (by exact ⟨_, rfl, q⟩)
theorem gives_mute {s : Shared} {A : Around} {id T n : String} {a b : Value} (sl : Slot T n id) (ha : s.TypeIs a T) {Bd : Builtin} (he : entryFor table id = some Bd) (hg : Meets (Bd ⟨[a, b], []⟩) fun _ R s' => s' = s ∧ R (.ok (.ret .notImplemented)) s') (ok : argsOk id ⟨[a, b], []⟩) : Mute A id s a b := fun prog w E Q q =>
  call_meets sl ha he ok hg ⟨rfl, q⟩

/-! the others, asked of a dict -/
section
variable {d : Addr} {dd : Option Addr} {es : Array DictEntry} {ep : Nat} {sl : Array (Option Value)}
abbrev No (d : Addr) (dd : Option Addr) (es : Array DictEntry) (ep : Nat) (sl : Array (Option Value)) : PySem.Spec := fun _ R s => s.heap.get? d = some { cls := .type "dict", dict := dd, data := .dict es ep, slots := sl } ∧ R (.ok (.ret .notImplemented)) s
theorem no_non : Meets (Builtin.«NoneType.__eq__» ⟨[.none, .ref d], []⟩) (No d dd es ep sl) := .of_wp fun prog w A R s ⟨hl, h⟩ => by
  obtain ⟨hp, g, dr, tk, os⟩ := s
  wp_walk using wpAny_loadPart' hl, wpAny_load hl
  exact ⟨_, rfl, h⟩
theorem no_bl (b : Bool) : Meets (Builtin.«int.__eq__» ⟨[.bool b, .ref d], []⟩) (No d dd es ep sl) := .of_wp fun prog w A R s ⟨hl, h⟩ => by
  obtain ⟨hp, g, dr, tk, os⟩ := s
  wp_walk using wpAny_loadPart' hl, wpAny_load hl
  exact ⟨_, rfl, h⟩
theorem no_int (b : Int) (u : Tok) : Meets (Builtin.«int.__eq__» ⟨[.int b u, .ref d], []⟩) (No d dd es ep sl) := .of_wp fun prog w A R s ⟨hl, h⟩ => by
  obtain ⟨hp, g, dr, tk, os⟩ := s
  wp_walk using wpAny_loadPart' hl, wpAny_load hl
  exact ⟨_, rfl, h⟩
theorem no_str (b : Str) (u : Tok) : Meets (Builtin.«str.__eq__» ⟨[.str b u, .ref d], []⟩) (No d dd es ep sl) := .of_wp fun prog w A R s ⟨hl, h⟩ => by
  obtain ⟨hp, g, dr, tk, os⟩ := s
  wp_walk using wpAny_loadPart' hl, wpAny_load hl
  exact ⟨_, rfl, h⟩
theorem no_lst (l : Addr) (items : Array Value) (n : Nat) (d2 : Option Addr) (s2 : Array (Option Value)) : Meets (Builtin.«list.__eq__» ⟨[.ref l, .ref d], []⟩) (fun A R s => s.heap.get? l = some { cls := .type "list", dict := d2, data := .seq items n, slots := s2 } ∧ No d dd es ep sl A R s) := .of_wp fun prog w A R s ⟨hl, hd, h⟩ => by
  obtain ⟨hp, g, dr, tk, os⟩ := s
  have f1 := F.sub_dict_list
  wp_walk using wpAny_loadPart' hl, wpAny_load hl, wpAny_loadPart' hd, wpAny_load hd
  exact ⟨_, rfl, h⟩
theorem no_tup (l : Addr) (items : Array Value) (n : Nat) (d2 : Option Addr) (s2 : Array (Option Value)) : Meets (Builtin.«tuple.__eq__» ⟨[.ref l, .ref d], []⟩) (fun A R s => s.heap.get? l = some { cls := .type "tuple", dict := d2, data := .seq items n, slots := s2 } ∧ No d dd es ep sl A R s) := .of_wp fun prog w A R s ⟨hl, hd, h⟩ => by
  obtain ⟨hp, g, dr, tk, os⟩ := s
  have f1 := F.sub_dict_tuple
  wp_walk using wpAny_loadPart' hl, wpAny_load hl, wpAny_loadPart' hd, wpAny_load hd
  exact ⟨_, rfl, h⟩
end
end Zd

namespace Zd
open PySem PySem.Spec PyProof.Rows L2

/-! ### == of trees with empty dicts -/
inductive KD (s : Shared) : Value → Nat → Prop
  | non : KD s .none 0
  | bl (b : Bool) : KD s (.bool b) 1
  | int (i : Int) (t : Tok) : KD s (.int i t) 2
  | str (x : Str) (t : Tok) : KD s (.str x t) 3
  | lst {a : Addr} {its : Array Value} (h : s.heap.IsList a its) : KD s (.ref a) 4
  | tup {a : Addr} {its : Array Value} (h : s.heap.IsTuple a its) : KD s (.ref a) 5
  | dic {a : Addr} (h : DAt s a) : KD s (.ref a) 6
section
variable {s : Shared} {A : Around} {d : Addr} (hd : DAt s d) (hu : A.units < cLine)
include hd hu
theorem ea_non_d : SeqAt.EqAt A s .none (.ref d) false := by
  obtain ⟨dd, es, ep, sl, e⟩ := id hd
  exact eqAt_mute (by (intro prog w E Q q; unfold eqBool; refine wpAny_holding (wpAny_ite_split (fun hab => absurd (eq_of_beq hab) nofun) fun _ => wpAny_bind q))) rfl hd.ty (by decide) F.sub_dict_NoneType F.slot_NoneType_eq F.slot_dict_eq_refl (fun _ _ _ _ q => call_meets F.slot_NoneType_eq rfl F.entry_NoneType_eq (F.args_NoneType_eq_2 _ _) no_non ⟨e, q⟩) (dict_mute hd rfl F.sub_NoneType_dict) (fun _ _ _ _ q => wpAny_of_eq (rfl : isSame .none (.ref d) = pure false) q) hu
theorem ea_d_non : SeqAt.EqAt A s (.ref d) .none false := by
  obtain ⟨dd, es, ep, sl, e⟩ := id hd
  exact eqAt_mute (by (intro prog w E Q q; unfold eqBool; refine wpAny_holding (wpAny_ite_split (fun hab => absurd (eq_of_beq hab) nofun) fun _ => wpAny_bind q))) hd.ty rfl (by decide) F.sub_NoneType_dict F.slot_dict_eq F.slot_NoneType_eq_refl (dict_mute hd rfl F.sub_NoneType_dict) (fun _ _ _ _ q => call_meets F.slot_NoneType_eq_refl rfl F.entry_NoneType_eq (F.args_NoneType_eq_2 _ _) no_non ⟨e, q⟩) (fun _ _ _ _ q => wpAny_of_eq (rfl : isSame (.ref d) .none = pure false) q) hu
theorem ea_bl_d (b : Bool) : SeqAt.EqAt A s (.bool b) (.ref d) false := by
  obtain ⟨dd, es, ep, sl, e⟩ := id hd
  exact eqAt_mute (by (intro prog w E Q q; unfold eqBool; refine wpAny_holding (wpAny_ite_split (fun hab => absurd (eq_of_beq hab) nofun) fun _ => wpAny_bind q))) rfl hd.ty (by decide) F.sub_dict_bool F.slot_bool_eq F.slot_dict_eq_refl (fun _ _ _ _ q => call_meets F.slot_bool_eq rfl F.entry_int_eq (F.args_int_eq_2 _ _) (no_bl b) ⟨e, q⟩) (dict_mute hd rfl F.sub_bool_dict) (fun _ _ _ _ q => wpAny_of_eq (rfl : isSame (.bool b) (.ref d) = pure false) q) hu
theorem ea_d_bl (b : Bool) : SeqAt.EqAt A s (.ref d) (.bool b) false := by
  obtain ⟨dd, es, ep, sl, e⟩ := id hd
  exact eqAt_mute (by (intro prog w E Q q; unfold eqBool; refine wpAny_holding (wpAny_ite_split (fun hab => absurd (eq_of_beq hab) nofun) fun _ => wpAny_bind q))) hd.ty rfl (by decide) F.sub_bool_dict F.slot_dict_eq F.slot_bool_eq_refl (dict_mute hd rfl F.sub_bool_dict) (fun _ _ _ _ q => call_meets F.slot_bool_eq_refl rfl F.entry_int_eq (F.args_int_eq_2 _ _) (no_bl b) ⟨e, q⟩) (fun _ _ _ _ q => wpAny_of_eq (rfl : isSame (.ref d) (.bool b) = pure false) q) hu
theorem ea_int_d (b : Int) (t : Tok) : SeqAt.EqAt A s (.int b t) (.ref d) false := by
  obtain ⟨dd, es, ep, sl, e⟩ := id hd
  exact eqAt_mute (by (intro prog w E Q q; unfold eqBool; refine wpAny_holding (wpAny_ite_split (fun hab => absurd (eq_of_beq hab) nofun) fun _ => wpAny_bind q))) (typeIs_int s b t) hd.ty (by decide) F.sub_dict_int F.slot_int_eq F.slot_dict_eq_refl (fun _ _ _ _ q => call_meets F.slot_int_eq (typeIs_int s b t) F.entry_int_eq (F.args_int_eq_2 _ _) (no_int b t) ⟨e, q⟩) (dict_mute hd (typeIs_int s b t) F.sub_int_dict) (fun _ _ _ _ q => wpAny_of_eq (rfl : isSame (.int b t) (.ref d) = pure false) q) hu
theorem ea_d_int (b : Int) (t : Tok) : SeqAt.EqAt A s (.ref d) (.int b t) false := by
  obtain ⟨dd, es, ep, sl, e⟩ := id hd
  exact eqAt_mute (by (intro prog w E Q q; unfold eqBool; refine wpAny_holding (wpAny_ite_split (fun hab => absurd (eq_of_beq hab) nofun) fun _ => wpAny_bind q))) hd.ty (typeIs_int s b t) (by decide) F.sub_int_dict F.slot_dict_eq F.slot_int_eq_refl (dict_mute hd (typeIs_int s b t) F.sub_int_dict) (fun _ _ _ _ q => call_meets F.slot_int_eq_refl (typeIs_int s b t) F.entry_int_eq (F.args_int_eq_2 _ _) (no_int b t) ⟨e, q⟩) (fun _ _ _ _ q => wpAny_of_eq (rfl : isSame (.ref d) (.int b t) = pure false) q) hu
theorem ea_str_d (b : Str) (t : Tok) : SeqAt.EqAt A s (.str b t) (.ref d) false := by
  obtain ⟨dd, es, ep, sl, e⟩ := id hd
  exact eqAt_mute (by (intro prog w E Q q; unfold eqBool; refine wpAny_holding (wpAny_ite_split (fun hab => absurd (eq_of_beq hab) nofun) fun _ => wpAny_bind q))) (typeIs_str s b t) hd.ty (by decide) F.sub_dict_str F.slot_str_eq F.slot_dict_eq_refl (fun _ _ _ _ q => call_meets F.slot_str_eq (typeIs_str s b t) F.entry_str_eq (F.args_str_eq_2 _ _) (no_str b t) ⟨e, q⟩) (dict_mute hd (typeIs_str s b t) F.sub_str_dict) (fun _ _ _ _ q => wpAny_of_eq (rfl : isSame (.str b t) (.ref d) = pure false) q) hu
theorem ea_d_str (b : Str) (t : Tok) : SeqAt.EqAt A s (.ref d) (.str b t) false := by
  obtain ⟨dd, es, ep, sl, e⟩ := id hd
  exact eqAt_mute (by (intro prog w E Q q; unfold eqBool; refine wpAny_holding (wpAny_ite_split (fun hab => absurd (eq_of_beq hab) nofun) fun _ => wpAny_bind q))) hd.ty (typeIs_str s b t) (by decide) F.sub_str_dict F.slot_dict_eq F.slot_str_eq_refl (dict_mute hd (typeIs_str s b t) F.sub_str_dict) (fun _ _ _ _ q => call_meets F.slot_str_eq_refl (typeIs_str s b t) F.entry_str_eq (F.args_str_eq_2 _ _) (no_str b t) ⟨e, q⟩) (fun _ _ _ _ q => wpAny_of_eq (rfl : isSame (.ref d) (.str b t) = pure false) q) hu
theorem ea_lst_d {l : Addr} {its : Array Value} (hl : s.heap.IsList l its) : SeqAt.EqAt A s (.ref l) (.ref d) false := by
  obtain ⟨dd, es, ep, sl, e⟩ := id hd
  obtain ⟨⟨cls, d2, data, s2⟩, ho, hc, n, hdt⟩ := hl
  cases hc
  cases hdt
  have ne : l ≠ d := fun z => by rw [z, e] at ho; exact absurd (congrArg Obj.cls (Option.some.inj ho)) (by simp)
  refine eqAt_mute (fun prog w E Q q => ?_) (⟨_, ho, rfl⟩ : s.TypeIs (.ref l) "list") hd.ty (by decide) F.sub_dict_list F.slot_list_eq F.slot_dict_eq_refl (fun _ _ _ _ q => call_meets F.slot_list_eq ⟨_, ho, rfl⟩ F.entry_list_eq (F.args_list_eq_2 _ _) (no_lst l its n d2 s2) ⟨ho, e, q⟩) (dict_mute hd ⟨_, ho, rfl⟩ F.sub_list_dict) (fun _ _ _ _ q => SeqAt.wpAny_isSame_ref_other' ne ho e (by simp) q) hu
  unfold eqBool
  exact wpAny_holding (wpAny_ite_split (fun hab => absurd (by injection eq_of_beq hab) ne) fun _ => wpAny_bind q)
theorem ea_d_lst {l : Addr} {its : Array Value} (hl : s.heap.IsList l its) : SeqAt.EqAt A s (.ref d) (.ref l) false := by
  obtain ⟨dd, es, ep, sl, e⟩ := id hd
  obtain ⟨⟨cls, d2, data, s2⟩, ho, hc, n, hdt⟩ := hl
  cases hc
  cases hdt
  have ne : d ≠ l := fun z => by rw [← z, e] at ho; exact absurd (congrArg Obj.cls (Option.some.inj ho)) (by simp)
  refine eqAt_mute (fun prog w E Q q => ?_) hd.ty (⟨_, ho, rfl⟩ : s.TypeIs (.ref l) "list") (by decide) F.sub_list_dict F.slot_dict_eq F.slot_list_eq_refl (dict_mute hd ⟨_, ho, rfl⟩ F.sub_list_dict) (fun _ _ _ _ q => call_meets F.slot_list_eq_refl ⟨_, ho, rfl⟩ F.entry_list_eq (F.args_list_eq_2 _ _) (no_lst l its n d2 s2) ⟨ho, e, q⟩) (fun _ _ _ _ q => SeqAt.wpAny_isSame_ref_other' ne e ho (by simp) q) hu
  unfold eqBool
  exact wpAny_holding (wpAny_ite_split (fun hab => absurd (by injection eq_of_beq hab) ne) fun _ => wpAny_bind q)
theorem ea_tup_d {l : Addr} {its : Array Value} (hl : s.heap.IsTuple l its) : SeqAt.EqAt A s (.ref l) (.ref d) false := by
  obtain ⟨dd, es, ep, sl, e⟩ := id hd
  obtain ⟨⟨cls, d2, data, s2⟩, ho, hc, n, hdt⟩ := hl
  cases hc
  cases hdt
  have ne : l ≠ d := fun z => by rw [z, e] at ho; exact absurd (congrArg Obj.cls (Option.some.inj ho)) (by simp)
  refine eqAt_mute (fun prog w E Q q => ?_) (⟨_, ho, rfl⟩ : s.TypeIs (.ref l) "tuple") hd.ty (by decide) F.sub_dict_tuple F.slot_tuple_eq F.slot_dict_eq_refl (fun _ _ _ _ q => call_meets F.slot_tuple_eq ⟨_, ho, rfl⟩ F.entry_tuple_eq (F.args_tuple_eq_2 _ _) (no_tup l its n d2 s2) ⟨ho, e, q⟩) (dict_mute hd ⟨_, ho, rfl⟩ F.sub_tuple_dict) (fun _ _ _ _ q => SeqAt.wpAny_isSame_ref_other' ne ho e (by simp) q) hu
  unfold eqBool
  exact wpAny_holding (wpAny_ite_split (fun hab => absurd (by injection eq_of_beq hab) ne) fun _ => wpAny_bind q)
theorem ea_d_tup {l : Addr} {its : Array Value} (hl : s.heap.IsTuple l its) : SeqAt.EqAt A s (.ref d) (.ref l) false := by
  obtain ⟨dd, es, ep, sl, e⟩ := id hd
  obtain ⟨⟨cls, d2, data, s2⟩, ho, hc, n, hdt⟩ := hl
  cases hc
  cases hdt
  have ne : d ≠ l := fun z => by rw [← z, e] at ho; exact absurd (congrArg Obj.cls (Option.some.inj ho)) (by simp)
  refine eqAt_mute (fun prog w E Q q => ?_) hd.ty (⟨_, ho, rfl⟩ : s.TypeIs (.ref l) "tuple") (by decide) F.sub_tuple_dict F.slot_dict_eq F.slot_tuple_eq_refl (dict_mute hd ⟨_, ho, rfl⟩ F.sub_tuple_dict) (fun _ _ _ _ q => call_meets F.slot_tuple_eq_refl ⟨_, ho, rfl⟩ F.entry_tuple_eq (F.args_tuple_eq_2 _ _) (no_tup l its n d2 s2) ⟨ho, e, q⟩) (fun prog w E Q q => ?_) hu
  · unfold eqBool
    exact wpAny_holding (wpAny_ite_split (fun hab => absurd (by injection eq_of_beq hab) ne) fun _ => wpAny_bind q)
  · exact PySem.wpAny_isSame_ref_other ne e ho (by simp) q
end


theorem ea_kinds {s : Shared} {A : Around} (hu : A.units < cLine) {v u : Value} {i j : Nat} (h1 : KD s v i) (h2 : KD s u j) (ne : i ≠ j) (nb : ¬ (i = 1 ∧ j = 2)) (nb' : ¬ (i = 2 ∧ j = 1)) : SeqAt.EqAt A s v u false :=
  match h1, h2 with
  | .non, .non => absurd rfl ne
  | .non, .bl b2 => SeqAt.EqAt.none_bool b2
  | .non, .int b2 t2 => SeqAt.EqAt.none_int b2 t2
  | .non, .str b2 t2 => SeqAt.EqAt.none_str b2 t2
  | .non, .lst q2 => SeqAt.EqAt.none_list q2 hu
  | .non, .tup q2 => SeqAt.EqAt.none_tuple q2 hu
  | .non, .dic q2 => ea_non_d q2 hu 
  | .bl b1, .non => SeqAt.EqAt.bool_none b1
  | .bl b1, .bl b2 => absurd rfl ne
  | .bl b1, .int b2 t2 => absurd ⟨rfl, rfl⟩ nb
  | .bl b1, .str b2 t2 => SeqAt.EqAt.bool_str b1 b2 t2
  | .bl b1, .lst q2 => SeqAt.EqAt.bool_list b1 q2 hu
  | .bl b1, .tup q2 => SeqAt.EqAt.bool_tuple b1 q2 hu
  | .bl b1, .dic q2 => ea_bl_d q2 hu b1
  | .int b1 t1, .non => SeqAt.EqAt.int_none b1 t1
  | .int b1 t1, .bl b2 => absurd ⟨rfl, rfl⟩ nb'
  | .int b1 t1, .int b2 t2 => absurd rfl ne
  | .int b1 t1, .str b2 t2 => SeqAt.EqAt.int_str b1 t1 b2 t2
  | .int b1 t1, .lst q2 => SeqAt.EqAt.int_list b1 t1 q2 hu
  | .int b1 t1, .tup q2 => SeqAt.EqAt.int_tuple b1 t1 q2 hu
  | .int b1 t1, .dic q2 => ea_int_d q2 hu b1 t1
  | .str b1 t1, .non => SeqAt.EqAt.str_none b1 t1
  | .str b1 t1, .bl b2 => SeqAt.EqAt.str_bool b1 t1 b2
  | .str b1 t1, .int b2 t2 => SeqAt.EqAt.str_int b1 t1 b2 t2
  | .str b1 t1, .str b2 t2 => absurd rfl ne
  | .str b1 t1, .lst q2 => SeqAt.EqAt.str_list b1 t1 q2 hu
  | .str b1 t1, .tup q2 => SeqAt.EqAt.str_tuple b1 t1 q2 hu
  | .str b1 t1, .dic q2 => ea_str_d q2 hu b1 t1
  | .lst q1, .non => SeqAt.EqAt.list_none q1 hu
  | .lst q1, .bl b2 => SeqAt.EqAt.list_bool b2 q1 hu
  | .lst q1, .int b2 t2 => SeqAt.EqAt.list_int b2 t2 q1 hu
  | .lst q1, .str b2 t2 => SeqAt.EqAt.list_str b2 t2 q1 hu
  | .lst q1, .lst q2 => absurd rfl ne
  | .lst q1, .tup q2 => SeqAt.EqAt.list_tuple q1 q2 hu
  | .lst q1, .dic q2 => ea_lst_d q2 hu q1
  | .tup q1, .non => SeqAt.EqAt.tuple_none q1 hu
  | .tup q1, .bl b2 => SeqAt.EqAt.tuple_bool b2 q1 hu
  | .tup q1, .int b2 t2 => SeqAt.EqAt.tuple_int b2 t2 q1 hu
  | .tup q1, .str b2 t2 => SeqAt.EqAt.tuple_str b2 t2 q1 hu
  | .tup q1, .lst q2 => SeqAt.EqAt.tuple_list q1 q2 hu
  | .tup q1, .tup q2 => absurd rfl ne
  | .tup q1, .dic q2 => ea_tup_d q2 hu q1
  | .dic q1, .non => ea_d_non q1 hu 
  | .dic q1, .bl b2 => ea_d_bl q1 hu b2
  | .dic q1, .int b2 t2 => ea_d_int q1 hu b2 t2
  | .dic q1, .str b2 t2 => ea_d_str q1 hu b2 t2
  | .dic q1, .lst q2 => ea_d_lst q1 hu q2
  | .dic q1, .tup q2 => ea_d_tup q1 hu q2
  | .dic q1, .dic q2 => absurd rfl ne
def eqFs (f : Dat → Dat → Option Bool) : List Dat → List Dat → Option Bool
  | [], [] => some true
  | a :: as, b :: bs => (f a b).bind fun x => (eqFs f as bs).map fun y => x && y
  | _, _ => some false
def kdT : Dat → Option Nat
  | .non => some 0
  | .bl _ => some 1
  | .int _ => some 2
  | .str _ => some 3
  | .lst _ => some 4
  | .tup _ => some 5
  | .dic _ _ => some 6
  | _ => none
def eqF : Nat → Dat → Dat → Option Bool
  | 0, _, _ => none
  | n + 1, d, e => match d, e with
    | .non, .non => some true
    | .bl a, .bl b => some (a == b)
    | .int a, .int b => some (a == b)
    | .str a, .str b => some (a == b)
    | .bl a, .int b => some ((if a then 1 else 0) == b)
    | .int a, .bl b => some (a == (if b then 1 else 0))
    | .tup xs, .tup ys => eqFs (eqF n) xs ys
    | .lst xs, .lst ys => eqFs (eqF n) xs ys
    | d, e => (kdT d).bind fun i => (kdT e).bind fun j => if i = j then none else some false
section
variable {X : Cx} {pins : List (Addr × Obj)} {σ : L2.St} {H : Hp} {s : Shared} {Z : Cz} {p : Pl}
theorem kd_of (I : Inv X pins σ H s) (hK : X.K = Z.K) {d : Dat} {i : Nat} {x : V} {v : Value} (h : IsD Z H p x d) (e : kdT d = some i) (r : RelV x v) : KD s v i := by
  cases d with
  | non => cases e; rw [isD_non.mp h] at r; cases r; exact .non
  | bl b => cases e; rw [isD_bl.mp h] at r; cases r; exact .bl b
  | int b => cases e; rw [isD_int.mp h] at r; obtain ⟨t, rfl⟩ := r; exact .int b t
  | str b => cases e; rw [isD_str.mp h] at r; obtain ⟨t, rfl⟩ := r; exact .str b t
  | lst ds =>
    cases e
    obtain ⟨a, vs, rfl, h1, _⟩ := isD_lst.mp h
    cases (show v = Value.ref a from r)
    have h1 := h1.sq
    rw [← hK] at h1
    obtain ⟨its, _, q, _⟩ := I.list h1
    exact .lst q.isList
  | tup ds =>
    cases e
    obtain ⟨a, vs, rfl, h1, _⟩ := isD_tup.mp h
    cases (show v = Value.ref a from r)
    have h1 := h1.sq
    rw [← hK] at h1
    obtain ⟨its, _, q, _⟩ := I.tuple h1
    exact .tup q
  | dic ks ds =>
    cases e
    obtain ⟨a, vs, rfl, h1, _⟩ := isD_dic.mp h
    cases (show v = Value.ref a from r)
    obtain ⟨_, _, ws, _, o, es, ep, ho, hx, hdt, _⟩ := dk_of I.hok h1.1
    refine .dic ?_
    obtain ⟨cls, dd, data, sl⟩ := o
    have hc : cls = .type "dict" := hx.1
    cases hc
    cases hdt
    exact ⟨dd, es, ep, sl, ho⟩
  | _ => cases e
theorem eqFs_same (I : Inv X pins σ H s) (hK : X.K = Z.K) {f : Dat → Dat → Option Bool} (ih : ∀ (d e : Dat) (x : V) (c : Bool), IsD Z H p x d → IsD Z H p x e → f d e = some c → c = true) : ∀ {ds es : List Dat} {vs : List V} {c : Bool}, IsDs Z H p vs ds → IsDs Z H p vs es → eqFs f ds es = some c → c = true
  | [], [], _, _, _, _, e => by cases e; rfl
  | [], _ :: _, vs, _, h, g, _ => by rw [isDs_nil.mp h] at g; obtain ⟨_, _, z, _⟩ := isDs_cons.mp g; cases z
  | _ :: _, [], vs, _, h, g, _ => by rw [isDs_nil.mp g] at h; obtain ⟨_, _, z, _⟩ := isDs_cons.mp h; cases z
  | a :: ds, b :: es, vs, c, h, g, e => by
    obtain ⟨v, r, rfl, h1, h2⟩ := isDs_cons.mp h
    obtain ⟨v', r', z, g1, g2⟩ := isDs_cons.mp g
    cases z
    unfold eqFs at e
    cases q1 : f a b with
    | none => rw [q1] at e; cases e
    | some x =>
      cases q2 : eqFs f ds es with
      | none => rw [q1, q2] at e; cases e
      | some y =>
        rw [q1, q2] at e
        cases e
        rw [ih _ _ _ _ h1 g1 q1, eqFs_same I hK ih h2 g2 q2]
        rfl
end
end Zd

namespace Zd
open PySem PySem.Spec PyProof.Rows L2
section
variable {X : Cx} {pins : List (Addr × Obj)} {σ : L2.St} {H : Hp} {s : Shared} {Z : Cz} {p : Pl}
theorem ref_vals {vs us : List V} (h : vs = us) : vs = us := h
theorem eqF_same (I : Inv X pins σ H s) (hK : X.K = Z.K) : ∀ (n : Nat) (d e : Dat) (x : V) (c : Bool), IsD Z H p x d → IsD Z H p x e → eqF n d e = some c → c = true
  | 0, _, _, _, _, _, _, q => by cases q
  | n + 1, d, e, x, c, h, g, q => by
    cases d with
    | non =>
      have hx := isD_non.mp h
      subst hx
      cases e with
      | non => cases q; rfl
      | bl _ => cases isD_bl.mp g
      | int _ => cases isD_int.mp g
      | str _ => cases isD_str.mp g
      | lst _ => obtain ⟨_, _, z, _⟩ := isD_lst.mp g; cases z
      | tup _ => obtain ⟨_, _, z, _⟩ := isD_tup.mp g; cases z
      | dic _ _ => obtain ⟨_, _, z, _⟩ := isD_dic.mp g; cases z
      | _ => cases q
    | bl b =>
      have hx := isD_bl.mp h
      subst hx
      cases e with
      | bl _ => cases isD_bl.mp g; cases q; exact beq_self_eq_true _
      | non => cases isD_non.mp g
      | int _ => cases isD_int.mp g
      | str _ => cases isD_str.mp g
      | lst _ => obtain ⟨_, _, z, _⟩ := isD_lst.mp g; cases z
      | tup _ => obtain ⟨_, _, z, _⟩ := isD_tup.mp g; cases z
      | dic _ _ => obtain ⟨_, _, z, _⟩ := isD_dic.mp g; cases z
      | _ => cases q
    | int b =>
      have hx := isD_int.mp h
      subst hx
      cases e with
      | int _ => cases isD_int.mp g; cases q; exact beq_self_eq_true _
      | non => cases isD_non.mp g
      | bl _ => cases isD_bl.mp g
      | str _ => cases isD_str.mp g
      | lst _ => obtain ⟨_, _, z, _⟩ := isD_lst.mp g; cases z
      | tup _ => obtain ⟨_, _, z, _⟩ := isD_tup.mp g; cases z
      | dic _ _ => obtain ⟨_, _, z, _⟩ := isD_dic.mp g; cases z
      | _ => cases q
    | str b =>
      have hx := isD_str.mp h
      subst hx
      cases e with
      | str _ => cases isD_str.mp g; cases q; exact beq_self_eq_true _
      | non => cases isD_non.mp g
      | bl _ => cases isD_bl.mp g
      | int _ => cases isD_int.mp g
      | lst _ => obtain ⟨_, _, z, _⟩ := isD_lst.mp g; cases z
      | tup _ => obtain ⟨_, _, z, _⟩ := isD_tup.mp g; cases z
      | dic _ _ => obtain ⟨_, _, z, _⟩ := isD_dic.mp g; cases z
      | _ => cases q
    | tup ds =>
      obtain ⟨a, vs, rfl, h1, h2⟩ := isD_tup.mp h
      have h1 := h1.sq
      rw [← hK] at h1
      cases e with
      | tup es =>
        obtain ⟨b, ws, z, g1, g2⟩ := isD_tup.mp g
        cases z
        have g1 := g1.sq
        rw [← hK] at g1
        rw [I.tuple_inj g1 h1] at g2
        exact eqFs_same I hK (fun d e x c => eqF_same I hK n d e x c) h2 g2 q
      | lst es =>
        obtain ⟨b, ws, z, g1, g2⟩ := isD_lst.mp g
        cases z
        have g1 := g1.sq
        rw [← hK] at g1
        obtain ⟨i1, _, q1, _⟩ := I.list g1
        obtain ⟨i2, _, q2, _⟩ := I.tuple h1
        exact absurd rfl (SeqAt.ne_of_list_tuple q1.isList q2)
      | dic ks es =>
        have k1 := kd_of I hK g rfl (rfl : RelV (.ref a) (.ref a))
        have k2 := kd_of I hK h rfl (rfl : RelV (.ref a) (.ref a))
        cases k1 with
        | dic hd =>
          cases k2 with
          | tup ht =>
            obtain ⟨_, _, _, _, e1⟩ := hd
            obtain ⟨o, e2, c2, _⟩ := ht
            rw [e1] at e2
            cases e2
            exact absurd c2 (by simp)
      | non => cases isD_non.mp g
      | bl _ => cases isD_bl.mp g
      | int _ => cases isD_int.mp g
      | str _ => cases isD_str.mp g
      | _ => cases q
    | lst ds =>
      obtain ⟨a, vs, rfl, h1, h2⟩ := isD_lst.mp h
      have h1 := h1.sq
      rw [← hK] at h1
      cases e with
      | lst es =>
        obtain ⟨b, ws, z, g1, g2⟩ := isD_lst.mp g
        cases z
        have g1 := g1.sq
        rw [← hK] at g1
        rw [I.list_inj g1 h1] at g2
        exact eqFs_same I hK (fun d e x c => eqF_same I hK n d e x c) h2 g2 q
      | tup es =>
        obtain ⟨b, ws, z, g1, g2⟩ := isD_tup.mp g
        cases z
        have g1 := g1.sq
        rw [← hK] at g1
        obtain ⟨i1, _, q1, _⟩ := I.list h1
        obtain ⟨i2, _, q2, _⟩ := I.tuple g1
        exact absurd rfl (SeqAt.ne_of_list_tuple q1.isList q2)
      | dic ks es =>
        have k1 := kd_of I hK g rfl (rfl : RelV (.ref a) (.ref a))
        have k2 := kd_of I hK h rfl (rfl : RelV (.ref a) (.ref a))
        cases k1 with
        | dic hd =>
          cases k2 with
          | lst ht =>
            obtain ⟨_, _, _, _, e1⟩ := hd
            obtain ⟨o, e2, c2, _⟩ := ht
            rw [e1] at e2
            cases e2
            exact absurd c2 (by simp)
      | non => cases isD_non.mp g
      | bl _ => cases isD_bl.mp g
      | int _ => cases isD_int.mp g
      | str _ => cases isD_str.mp g
      | _ => cases q
    | dic ks ds =>
      obtain ⟨a, vs, rfl, h1, _⟩ := isD_dic.mp h
      have kh := kd_of I hK h rfl (rfl : RelV (.ref a) (.ref a))
      cases e with
      | tup es =>
        have k2 := kd_of I hK g rfl (rfl : RelV (.ref a) (.ref a))
        cases kh with
        | dic hd =>
          cases k2 with
          | tup ht =>
            obtain ⟨_, _, _, _, e1⟩ := hd
            obtain ⟨o, e2, c2, _⟩ := ht
            rw [e1] at e2
            cases e2
            exact absurd c2 (by simp)
      | lst es =>
        have k2 := kd_of I hK g rfl (rfl : RelV (.ref a) (.ref a))
        cases kh with
        | dic hd =>
          cases k2 with
          | lst ht =>
            obtain ⟨_, _, _, _, e1⟩ := hd
            obtain ⟨o, e2, c2, _⟩ := ht
            rw [e1] at e2
            cases e2
            exact absurd c2 (by simp)
      | non => cases isD_non.mp g
      | bl _ => cases isD_bl.mp g
      | int _ => cases isD_int.mp g
      | str _ => cases isD_str.mp g
      | _ => cases q
    | _ => cases e <;> cases q
end
end Zd

namespace Zd
open PySem PySem.Spec PyProof.Rows L2
def evF (f : Dat → Dat → Option Bool) (ds es : List Dat) (j : Nat) : Bool := match ds[j]?, es[j]? with
  | some d, some e => (f d e).getD false
  | _, _ => true
theorem eqFs_all {f : Dat → Dat → Option Bool} : ∀ {ds es : List Dat} {c : Bool}, eqFs f ds es = some c → (∀ (j : Nat) (d e : Dat), ds[j]? = some d → es[j]? = some e → f d e = some (evF f ds es j)) ∧ c = ((List.range (min ds.length es.length)).all (evF f ds es) && ds.length == es.length)
  | [], [], c, h => by cases h; exact ⟨fun j d e z => by simp at z, rfl⟩
  | [], _ :: _, c, h => by cases h; exact ⟨fun j d e z => by simp at z, rfl⟩
  | _ :: _, [], c, h => by cases h; exact ⟨fun j d e _ z => by simp at z, rfl⟩
  | a :: ds, b :: es, c, h => by
    unfold eqFs at h
    cases q1 : f a b with
    | none => rw [q1] at h; cases h
    | some x =>
      cases q2 : eqFs f ds es with
      | none => rw [q1, q2] at h; cases h
      | some y =>
        rw [q1, q2] at h
        cases h
        obtain ⟨k1, k2⟩ := eqFs_all q2
        refine ⟨fun j d e z1 z2 => ?_, ?_⟩
        · cases j with
          | zero =>
            simp only [List.getElem?_cons_zero, Option.some.injEq] at z1 z2
            subst z1 z2
            unfold evF
            simp only [List.getElem?_cons_zero]
            rw [q1]
            rfl
          | succ j =>
            simp only [List.getElem?_cons_succ] at z1 z2
            have := k1 j d e z1 z2
            unfold evF at this ⊢
            simp only [List.getElem?_cons_succ]
            exact this
        · rw [List.length_cons, List.length_cons, Nat.add_min_add_right, List.range_succ_eq_map, List.all_cons, List.all_map, k2]
          have e0 : evF f (a :: ds) (b :: es) 0 = x := by unfold evF; simp only [List.getElem?_cons_zero]; rw [q1]; rfl
          have e1 : (evF f (a :: ds) (b :: es) ∘ Nat.succ) = evF f ds es := by funext j; show evF f (a :: ds) (b :: es) (j + 1) = _; unfold evF; simp only [List.getElem?_cons_succ]
          rw [e0, e1, Bool.and_assoc]
          congr 2
          cases hh : ds.length == es.length with
          | true => rw [beq_iff_eq] at hh; rw [hh]; simp
          | false => symm; rw [beq_eq_false_iff_ne] at hh ⊢; omega
section
variable {X : Cx} {pins : List (Addr × Obj)} {σ : L2.St} {H : Hp} {s : Shared} {Z : Cz} {p : Pl}
theorem item_of {vs : List V} {its : List Value} {ds : List Dat} (rv : Vals vs its) (h : IsDs Z H p vs ds) {j : Nat} (lt : j < its.length) : ∃ x d, RelV x its[j] ∧ ds[j]? = some d ∧ IsD Z H p x d := by
  have l1 := rv.length
  have l2 := h.len
  have lt2 : j < ds.length := by omega
  obtain ⟨x, g1, g2⟩ := h.get (List.getElem?_eq_getElem lt2)
  obtain ⟨u, k1, k2⟩ := rv.get g1
  rw [List.getElem?_eq_getElem lt] at k1
  cases k1
  exact ⟨x, _, k2, List.getElem?_eq_getElem lt2, g2⟩
theorem tup_at (I : Inv X pins σ H s) (hK : X.K = Z.K) {f : Dat → Dat → Option Bool} {A : Around} (hu : A.units < cLine) (ih : ∀ (d e : Dat) (c : Bool) (x y : V) (v u : Value), f d e = some c → IsD Z H p x d → IsD Z H p y e → RelV x v → RelV y u → SeqAt.EqAt A.in1 s v u c) {ds es : List Dat} {a b : Addr} {vs ws : List V} {c : Bool} (ha : SqT X.K H a vs) (hb : SqT X.K H b ws) (h1 : IsDs Z H p vs ds) (h2 : IsDs Z H p ws es) (q : eqFs f ds es = some c) : SeqAt.RcAt A s (.ref a) (.ref b) c := by
  obtain ⟨i1, r1, p1, _⟩ := I.tuple ha
  obtain ⟨i2, r2, p2, _⟩ := I.tuple hb
  obtain ⟨k1, k2⟩ := eqFs_all q
  have l1 : i1.toArray.size = ds.length := by rw [List.size_toArray, ← r1.length, h1.len]
  have l2 : i2.toArray.size = es.length := by rw [List.size_toArray, ← r2.length, h2.len]
  rw [k2, ← l1, ← l2]
  refine SeqAt.RcAt.tuples p1 p2 hu fun j j1 j2 => ?_
  obtain ⟨x, d, g1, g2, g3⟩ := item_of r1 h1 (by simpa using j1)
  obtain ⟨y, e, g4, g5, g6⟩ := item_of r2 h2 (by simpa using j2)
  exact ih d e _ x y _ _ (k1 j d e g2 g5) g3 g6 (by simpa using g1) (by simpa using g4)
theorem lst_at (I : Inv X pins σ H s) (hK : X.K = Z.K) {f : Dat → Dat → Option Bool} {A : Around} (hu : A.units < cLine) (ih : ∀ (d e : Dat) (c : Bool) (x y : V) (v u : Value), f d e = some c → IsD Z H p x d → IsD Z H p y e → RelV x v → RelV y u → SeqAt.EqAt A.in1 s v u c) {ds es : List Dat} {a b : Addr} {vs ws : List V} {c : Bool} (ha : SqL X.K H a vs) (hb : SqL X.K H b ws) (h1 : IsDs Z H p vs ds) (h2 : IsDs Z H p ws es) (q : eqFs f ds es = some c) : SeqAt.RcAt A s (.ref a) (.ref b) c := by
  obtain ⟨i1, r1, p1, _⟩ := I.list ha
  obtain ⟨i2, r2, p2, _⟩ := I.list hb
  obtain ⟨k1, k2⟩ := eqFs_all q
  have l1 : i1.toArray.size = ds.length := by rw [List.size_toArray, ← r1.length, h1.len]
  have l2 : i2.toArray.size = es.length := by rw [List.size_toArray, ← r2.length, h2.len]
  by_cases sz : ds.length = es.length
  · have e : c = (List.range i1.toArray.size).all (evF f ds es) := by rw [k2, l1, sz, Nat.min_self]; simp
    rw [e]
    refine SeqAt.RcAt.lists p1.isList p2.isList (by rw [l1, l2, sz]) hu fun j j1 j2 => ?_
    obtain ⟨x, d, g1, g2, g3⟩ := item_of r1 h1 (by simpa using j1)
    obtain ⟨y, e, g4, g5, g6⟩ := item_of r2 h2 (by simpa using j2)
    exact ih d e _ x y _ _ (k1 j d e g2 g5) g3 g6 (by simpa using g1) (by simpa using g4)
  · have e : c = false := by rw [k2, beq_eq_false_iff_ne.mpr sz, Bool.and_false]
    rw [e]
    exact SeqAt.RcAt.lists_lengths p1.isList p2.isList (by rw [l1, l2]; simpa using sz) hu
theorem eqF_at (I : Inv X pins σ H s) (hK : X.K = Z.K) : ∀ (n : Nat) (A : Around), A.units + n < cLine → ∀ (d e : Dat) (c : Bool) (x y : V) (v u : Value), eqF n d e = some c → IsD Z H p x d → IsD Z H p y e → RelV x v → RelV y u → SeqAt.EqAt A s v u c
  | 0, _, _, _, _, _, _, _, _, _, q, _, _, _, _ => by cases q
  | n + 1, A, hu, d, e, c, x, y, v, u, q, hx, hy, rx, ry => by
    have hu1 : A.units < cLine := by omega
    have kinds : ∀ i j, kdT d = some i → kdT e = some j → i ≠ j → ¬ (i = 1 ∧ j = 2) → ¬ (i = 2 ∧ j = 1) → SeqAt.EqAt A s v u false := fun i j h1 h2 n1 n2 n3 => ea_kinds hu1 (kd_of I hK hx h1 rx) (kd_of I hK hy h2 ry) n1 n2 n3
    have ih := fun (d e : Dat) (c : Bool) (x y : V) (v u : Value) => eqF_at I hK n A.in1 (by show A.units + 1 + n < cLine; omega) d e c x y v u
    by_cases tt : ∃ ds es, d = .tup ds ∧ e = .tup es
    · obtain ⟨ds, es, rfl, rfl⟩ := tt
      have same := eqF_same (p := p) I hK (n + 1) (.tup ds) (.tup es)
      obtain ⟨a, vs, rfl, h1, h2⟩ := isD_tup.mp hx
      obtain ⟨b, ws, rfl, g1, g2⟩ := isD_tup.mp hy
      cases (show v = Value.ref a from rx)
      cases (show u = Value.ref b from ry)
      by_cases ab : a = b
      · subst ab
        rw [same _ _ hx hy q]
        exact SeqAt.EqAt.same _
      · have h1 := h1.sq
        have g1 := g1.sq
        rw [← hK] at h1 g1
        exact .of_refs ab (tup_at I hK hu1 ih h1 g1 h2 g2 q)
    by_cases ll : ∃ ds es, d = .lst ds ∧ e = .lst es
    · obtain ⟨ds, es, rfl, rfl⟩ := ll
      have same := eqF_same (p := p) I hK (n + 1) (.lst ds) (.lst es)
      obtain ⟨a, vs, rfl, h1, h2⟩ := isD_lst.mp hx
      obtain ⟨b, ws, rfl, g1, g2⟩ := isD_lst.mp hy
      cases (show v = Value.ref a from rx)
      cases (show u = Value.ref b from ry)
      by_cases ab : a = b
      · subst ab
        rw [same _ _ hx hy q]
        exact SeqAt.EqAt.same _
      · have h1 := h1.sq
        have g1 := g1.sq
        rw [← hK] at h1 g1
        exact .of_refs ab (lst_at I hK hu1 ih h1 g1 h2 g2 q)
    cases d with
    | non =>
      cases e with
      | non => cases q; have e1 := isD_non.mp hx; have e2 := isD_non.mp hy; subst e1 e2; cases rx; cases ry; exact .same _
      | _ => first | (cases q; done) | (cases q; exact kinds _ _ rfl rfl (by decide) (by decide) (by decide))
    | bl a =>
      have e1 := isD_bl.mp hx; subst e1; cases rx
      cases e with
      | bl b => cases q; have e2 := isD_bl.mp hy; subst e2; cases ry; exact .bool_bool a b
      | int b => cases q; have e2 := isD_int.mp hy; subst e2; obtain ⟨t, rfl⟩ := ry; exact .bool_int a b t
      | _ => first | (cases q; done) | (cases q; exact kinds _ _ rfl rfl (by decide) (by decide) (by decide))
    | int a =>
      have e1 := isD_int.mp hx; subst e1; obtain ⟨t, rfl⟩ := rx
      cases e with
      | int b => cases q; have e2 := isD_int.mp hy; subst e2; obtain ⟨t2, rfl⟩ := ry; exact .int_int a t b t2
      | bl b => cases q; have e2 := isD_bl.mp hy; subst e2; cases ry; exact .int_bool a t b
      | _ => first | (cases q; done) | (cases q; exact kinds _ _ rfl rfl (by decide) (by decide) (by decide))
    | str a =>
      have e1 := isD_str.mp hx; subst e1; obtain ⟨t, rfl⟩ := rx
      cases e with
      | str b => cases q; have e2 := isD_str.mp hy; subst e2; obtain ⟨t2, rfl⟩ := ry; exact .str_str a t b t2
      | _ => first | (cases q; done) | (cases q; exact kinds _ _ rfl rfl (by decide) (by decide) (by decide))
    | tup ds =>
      cases e with
      | tup es => exact absurd ⟨ds, es, rfl, rfl⟩ tt
      | _ => first | (cases q; done) | (cases q; exact kinds _ _ rfl rfl (by decide) (by decide) (by decide))
    | lst ds =>
      cases e with
      | lst es => exact absurd ⟨ds, es, rfl, rfl⟩ ll
      | _ => first | (cases q; done) | (cases q; exact kinds _ _ rfl rfl (by decide) (by decide) (by decide))
    | dic ks ds =>
      cases e with
      | _ => first | (cases q; done) | (cases q; exact kinds _ _ rfl rfl (by decide) (by decide) (by decide))
    | _ => cases e <;> cases q
end
/-! ### the operations -/
/-- tuples -/
def rEqT (Z : Cz) (neg : Bool) : R2 := fun x y H Q => ∃ (p : Pl) (ds es : List Dat) (c : Bool), IsD Z H p x (.tup ds) ∧ IsD Z H p y (.tup es) ∧ eqFs (eqF 60) ds es = some c ∧ Q (.bl (neg != c)) H
theorem op_eqT {X : Cx} {Z : Cz} (hu : X.A.units + 64 < cLine) (hK : X.K = Z.K) : OpR X (compareOp .Eq) (rEqT Z false) := by
  intro pins s σ H x y v u Q I rx ry ⟨p, ds, es, c, hx, hy, q, k⟩
  rw [Bool.false_bne] at k
  obtain ⟨a, vs, rfl, h1, h2⟩ := isD_tup.mp hx
  obtain ⟨b, ws, rfl, g1, g2⟩ := isD_tup.mp hy
  cases (show v = Value.ref a from rx)
  cases (show u = Value.ref b from ry)
  have h1 := h1.sq
  have g1 := g1.sq
  rw [← hK] at h1 g1
  exact tup_at I hK (by omega) (fun d e c x y v u => eqF_at I hK 60 X.A.in1 (by show X.A.units + 1 + 60 < cLine; omega) d e c x y v u) h1 g1 h2 g2 q X.prog X.w _ _ ⟨.bl c, H, I, rfl, k⟩
def dEqT (d e : Dat) : M Dat := match d, e with
  | .tup ds, .tup es => M.opt (eqFs (eqF 60) ds es) >>= fun c => pure (.bl (false != c))
  | _, _ => M.no
theorem r_eqT {Z : Cz} : JR Z (IsD Z) (IsD Z) (IsD Z) (rEqT Z false) dEqT := fun x y d e Er H p S Q hx hy s q => by
  unfold dEqT at q
  split at q
  · obtain ⟨c, e, q⟩ := q.opt
    exact ⟨p, _, _, c, hx, hy, e, q.pure xE s _ (isD_bl.mpr rfl)⟩
  · exact (bad_no (S := S) q).elim
/-- x in texts -/
def isS (w : Dat) (xs : List Str) : Bool := match w with
  | .str y => xs.any fun z => z == y
  | _ => false
def rInS (Z : Cz) (neg : Bool) : R2 := fun x y H Q => ∃ (p : Pl) (a : Addr) (d : Dat) (i : Nat) (xs : List Str), y = .ref a ∧ (SqT Z.K H a (xs.map V.str) ∨ SqL Z.K H a (xs.map V.str)) ∧ IsD Z H p x d ∧ kdT d = some i ∧ Q (.bl (neg != isS d xs)) H
def tokS (y : Value) (d : Dat) : Bool := match y, d with
  | .str z _, .str w => z == w
  | _, _ => false
theorem any_tok {d : Dat} : ∀ {xs : List Str} {us : List Value}, Vals (xs.map V.str) us → us.toArray.any (fun y => tokS y d) = isS d xs := by
  intro xs us r
  rw [List.any_toArray]
  induction xs generalizing us with
  | nil => cases r; cases d <;> rfl
  | cons x xs ih =>
    cases r with
    | cons h t =>
      obtain ⟨k, rfl⟩ := h
      rw [List.any_cons, ih t]
      cases d <;> first | rfl | simp [isS, tokS]
theorem tok_at {X : Cx} {pins : List (Addr × Obj)} {σ : L2.St} {H : Hp} {s : Shared} {Z : Cz} {p : Pl} (I : Inv X pins σ H s) (hK : X.K = Z.K) {A : Around} (hu : A.units < cLine) {d : Dat} {i : Nat} {x : V} {v : Value} (hx : IsD Z H p x d) (hi : kdT d = some i) (rx : RelV x v) {z : Str} {t : Tok} : SeqAt.EqAt A s (.str z t) v (tokS (.str z t) d) := by
  have k := kd_of I hK hx hi rx
  cases d with
  | str w =>
    have e1 := isD_str.mp hx
    subst e1
    obtain ⟨t2, rfl⟩ := rx
    exact .str_str z t w t2
  | _ => first | (cases hi; done) | (cases hi; exact ea_kinds hu (.str z t) k (by decide) (by decide) (by decide))
theorem op_inS {X : Cx} {Z : Cz} {neg : Bool} (hu : X.A.units + 70 < cLine) (hK : X.K = Z.K) : OpR X (compareOp (if neg then .NotIn else .In)) (rInS Z neg) := by
  intro pins s σ H x y v u Q I rx ry ⟨p, a, d, i, xs, ey, hy, hx, hi, k⟩
  subst ey
  cases (show u = Value.ref a from ry)
  have at_ : ∀ {us : List Value}, Vals (xs.map V.str) us → ∀ y, y ∈ us.toArray → SeqAt.EqAt X.A.in1 s y v (tokS y d) := fun {us} r y hm => by
    have hm : y ∈ us := by simpa using hm
    obtain ⟨j, lt, rfl⟩ := List.getElem_of_mem hm
    have lx : j < xs.length := by have := r.length; rw [List.length_map] at this; omega
    obtain ⟨w, g1, g2⟩ := r.get (i := j) (x := .str xs[j]) (by simp [lx])
    rw [List.getElem?_eq_getElem lt] at g1
    cases g1
    obtain ⟨t, e⟩ := (show ∃ t, us[j] = Value.str xs[j] t from g2)
    rw [e]
    exact tok_at I hK (by show X.A.units + 1 < cLine; omega) hx hi rx
  rcases hy with hy | hy
  · rw [← hK] at hy
    obtain ⟨its, rv, pt, _⟩ := I.tuple hy
    cases neg with
    | false =>
      refine SeqAt.in_tupleAt (fun y => tokS y d) pt (at_ rv) ?_
      rw [any_tok rv]
      rw [Bool.false_bne] at k
      exact ⟨.bl _, H, I, rfl, k⟩
    | true =>
      refine SeqAt.notIn_tupleAt (fun y => tokS y d) pt (at_ rv) ?_
      rw [any_tok rv]
      rw [Bool.true_bne] at k
      exact ⟨.bl _, H, I, rfl, k⟩
  · rw [← hK] at hy
    obtain ⟨its, rv, pt, _⟩ := I.list hy
    cases neg with
    | false =>
      refine SeqAt.in_listAt (fun y => tokS y d) pt.isList (at_ rv) ?_
      rw [any_tok rv]
      rw [Bool.false_bne] at k
      exact ⟨.bl _, H, I, rfl, k⟩
    | true =>
      refine SeqAt.notIn_listAt (fun y => tokS y d) pt.isList (at_ rv) ?_
      rw [any_tok rv]
      rw [Bool.true_bne] at k
      exact ⟨.bl _, H, I, rfl, k⟩
def dInS (neg : Bool) (d e : Dat) : M Dat := M.opt (kdT d) >>= fun _ => M.opt ((itemsOf e).bind strsD) >>= fun xs => pure (.bl (neg != isS d xs))
theorem r_inS {Z : Cz} {neg : Bool} : JR Z (IsD Z) (IsW Z) (IsD Z) (rInS Z neg) (dInS neg) := fun x y d e Er H p S Q hx hy s q => by
  obtain ⟨i, ei, q1⟩ := q.opt
  obtain ⟨xs, ex, q2⟩ := q1.opt
  clear q q1
  cases e with
  | tup ds =>
    have hy : IsD Z H p y (.tup ds) := hy
    obtain ⟨a, vs, rfl, h1, h2⟩ := isD_tup.mp hy
    have h1 := h1.sq
    rw [strsD_is h2 ex] at h1
    exact ⟨p, a, d, i, xs, rfl, .inl h1, hx, ei, q2.pure xE s _ (isD_bl.mpr rfl)⟩
  | lst ds =>
    obtain ⟨a, vs, rfl, h1, h2⟩ := hy
    have h1 := SqL.of (K := Z.K) h1.1
    rw [strsD_is h2 ex] at h1
    exact ⟨p, a, d, i, xs, rfl, .inr h1, hx, ei, q2.pure xE s _ (isD_bl.mpr rfl)⟩
  | _ => cases ex
end Zd

namespace Zd
open PySem PySem.Spec PyProof.Rows L2
/-! ### repr of trees with empty dicts, without lists -/
mutual
def toPyD : Dat → Option PyData
  | .non => some .none
  | .bl b => some (.bool b)
  | .int i => some (.int i)
  | .str x => some (.str x)
  | .tup ds => (toPysD ds).map .tuple
  | .dic ks _ => if ks.isEmpty then some (.dict []) else none
  | _ => none
def toPysD : List Dat → Option (List PyData)
  | [] => some []
  | d :: ds => (toPyD d).bind fun x => (toPysD ds).map (x :: ·)
end
section
variable {X : Cx} {pins : List (Addr × Obj)} {σ : L2.St} {H : Hp} {s : Shared} {Z : Cz} {p : Pl}
theorem d0_reads {a : Addr} (I : Inv X pins σ H s) (ea : H a = some (.dK [])) : ∃ as, Reads s.heap (.ref a) (.dict []) as ∧ sysModules ∉ as := by
  obtain ⟨_, nsm, vs, hkv, o, es, ep, ho, ⟨hc, _, _⟩, hdat, _, hp, _⟩ := (I.hok a _ ea : ObjOk X.prog X.w H s.heap a (.dK []))
  cases hkv
  have e0 : es.toList = [] := by
    generalize es.toList = l at hp
    cases hp
    rfl
  refine ⟨_, Reads.dict (as := []) (bs := []) ho hc hdat (by rw [e0]; exact .nil) (by rw [e0]; exact .nil), fun hm => ?_⟩
  rw [List.append_nil, List.mem_singleton] at hm
  rw [← hm] at nsm
  simp at nsm
mutual
theorem IsD.readsD (I : Inv X pins σ H s) (hK : X.K = Z.K) : ∀ (d : Dat) {v : V} {y : PyData} {u : Value}, IsD Z H p v d → toPyD d = some y → RelV v u → ∃ as, Reads s.heap u y as ∧ sysModules ∉ as
  | .non, _, _, _, h, e, r => by rw [toPyD] at e; cases e; rw [isD_non.mp h] at r; cases r; exact ⟨_, .none, List.not_mem_nil⟩
  | .bl b, _, _, _, h, e, r => by rw [toPyD] at e; cases e; rw [isD_bl.mp h] at r; cases r; exact ⟨_, .bool b, List.not_mem_nil⟩
  | .int i, _, _, _, h, e, r => by rw [toPyD] at e; cases e; rw [isD_int.mp h] at r; obtain ⟨t, rfl⟩ := r; exact ⟨_, .int i t, List.not_mem_nil⟩
  | .str x, _, _, _, h, e, r => by rw [toPyD] at e; cases e; rw [isD_str.mp h] at r; obtain ⟨t, rfl⟩ := r; exact ⟨_, .str x t, List.not_mem_nil⟩
  | .tup ds, _, y, u, h, e, r => by
    obtain ⟨a, vs, rfl, h1, h2⟩ := isD_tup.mp h
    cases (show u = Value.ref a from r)
    rw [toPyD] at e
    cases e2 : toPysD ds with
    | none => rw [e2] at e; cases e
    | some ys =>
      rw [e2] at e
      cases e
      have h1 := h1.sq
      rw [← hK] at h1
      obtain ⟨its, rv, ⟨o, eo, co, n, dn⟩, _⟩ := I.tuple h1
      obtain ⟨as, q, no⟩ := IsDs.readsD I hK ds h2 e2 rv
      exact ⟨_, .tuple eo co dn q, no⟩
  | .dic ks ds, _, _, u, h, e, r => by
    obtain ⟨a, vs, rfl, h1, hl, h2⟩ := isD_dic.mp h
    cases (show u = Value.ref a from r)
    rw [toPyD] at e
    cases ks with
    | nil => cases e; exact d0_reads I h1.1
    | cons _ _ => cases e
  | .lst _, _, _, _, _, e, _ => by rw [toPyD] at e <;> first | cases e | nofun
  | .obj _ _ _, _, _, _, _, e, _ => by rw [toPyD] at e <;> first | cases e | nofun
  | .loc _, _, _, _, _, e, _ => by rw [toPyD] at e <;> first | cases e | nofun
  | .ty _, _, _, _, _, e, _ => by rw [toPyD] at e <;> first | cases e | nofun
  | .cls _, _, _, _, _, e, _ => by rw [toPyD] at e <;> first | cases e | nofun
  | .scr _, _, _, _, _, e, _ => by rw [toPyD] at e <;> first | cases e | nofun
theorem IsDs.readsD (I : Inv X pins σ H s) (hK : X.K = Z.K) : ∀ (ds : List Dat) {vs : List V} {ys : List PyData} {us : List Value}, IsDs Z H p vs ds → toPysD ds = some ys → Vals vs us → ∃ as, ReadsAll s.heap us ys as ∧ sysModules ∉ as
  | [], _, _, _, h, e, r => by rw [toPysD] at e; cases e; rw [isDs_nil.mp h] at r; cases r; exact ⟨_, .nil, List.not_mem_nil⟩
  | d :: ds, _, ys, _, h, e, r => by
    obtain ⟨v, vr, rfl, h1, h2⟩ := isDs_cons.mp h
    rw [toPysD] at e
    cases e1 : toPyD d with
    | none => rw [e1] at e; cases e
    | some x =>
      cases e2 : toPysD ds with
      | none => rw [e1, e2] at e; cases e
      | some xs =>
        rw [e1, e2] at e
        cases e
        cases r with
        | cons r1 r2 =>
          obtain ⟨as, q1, n1⟩ := IsD.readsD I hK d h1 e1 r1
          obtain ⟨bs, q2, n2⟩ := IsDs.readsD I hK ds h2 e2 r2
          exact ⟨_, .cons q1 q2, fun hm => (List.mem_append.mp hm).elim n1 n2⟩
end
end
def okShowD (y : PyData) : Bool := y.showable && decide (y.depth ≤ 64) && decide (y.shown.length ≤ sizeLine)
def isRf : Dat → Bool
  | .tup _ => true
  | .dic _ _ => true
  | _ => false
theorem rf_is {H : Hp} {Z : Cz} {p : Pl} {d : Dat} {x : V} (h : IsD Z H p x d) (r : isRf d = true) : ∃ a, x = .ref a := by
  cases d with
  | tup _ => obtain ⟨a, _, e, _⟩ := isD_tup.mp h; exact ⟨a, e⟩
  | dic _ _ => obtain ⟨a, _, e, _⟩ := isD_dic.mp h; exact ⟨a, e⟩
  | _ => cases r
def rRepr2 (Z : Cz) : List V → Hp → VK → Prop := fun xs H Q => Zg.rReprD Z.K xs H Q ∨ ∃ (p : Pl) (d : Dat) (x : V) (y : PyData), xs = [x] ∧ IsD Z H p x d ∧ isRf d = true ∧ toPyD d = some y ∧ okShowD y = true ∧ Q (.str y.shown) H
theorem call_repr2 {X : Cx} {Z : Cz} (hg : Zg.Calm X.A) (hu : X.A.units + 70 < cLine) (hK : X.K = Z.K) : CallR X (.builtin "repr") (rRepr2 Z) := by
  intro pins s σ H xs us Q I r h
  rcases h with h | ⟨p, d, x, y, rfl, hx, rf, e, ok, q⟩
  · rw [← hK] at h
    exact Zg.call_reprD hg hu pins s σ H xs us Q I r h
  · unfold okShowD at ok
    simp only [Bool.and_eq_true, decide_eq_true_eq] at ok
    obtain ⟨u, rfl, rx⟩ := vals1 r
    obtain ⟨a, rfl⟩ := rf_is hx rf
    obtain ⟨as, rd, no⟩ := IsD.readsD I hK d hx e rx
    cases (show u = Value.ref a from rx)
    exact repr_of_reads' rd ok.1.1 (fun _ => no) hg (by omega) (fun _ _ e => e) (fun h' u tk hk => ⟨.str _, H, I.kept (t' := tk) hk, ⟨_, rfl⟩, q⟩) ok.2
def dRepr2 (ds : List Dat) : M Dat := match ds with
  | [d] => match toPy d with
    | some y => M.need (okShow y) >>= fun _ => pure (.str y.shown)
    | none => M.need (isRf d) >>= fun _ => M.opt (toPyD d) >>= fun y => M.need (okShowD y) >>= fun _ => pure (.str y.shown)
  | _ => M.no
theorem c_repr2 {Z : Cz} : JC Z (IsDs Z) (IsD Z) (rRepr2 Z) dRepr2 := fun x ds Er H p S Q hx s q => by
  match ds, hx, q with
  | [d], hx, q =>
    obtain ⟨v, rfl, hv⟩ := isDs_one hx
    cases e : toPy d with
    | some y =>
      have q : Post Z Er ExtE ((M.need (okShow y) >>= fun _ => pure (Dat.str y.shown)) S) H p (fun a _ H' p' => ∀ v, IsD Z H' p' v a → Q v H') := by
        unfold dRepr2 at q
        simp only [e] at q
        exact q
      obtain ⟨c, q⟩ := q.need
      unfold okShow at c
      simp only [Bool.and_eq_true, decide_eq_true_eq, Bool.not_eq_true'] at c
      refine .inl ⟨v, y, rfl, hv.dp _ e, c.1.1.1.1, c.1.1.1.2, c.1.1.2, c.1.2, fun i z => ?_, q.pure xE s _ (isD_str.mpr rfl)⟩
      subst z
      have hd := hv.dp _ e
      cases hd
      have c2 := c.2
      simp only [decide_eq_true_eq] at c2
      exact c2
    | none =>
      have q : Post Z Er ExtE ((M.need (isRf d) >>= fun _ => M.opt (toPyD d) >>= fun y => M.need (okShowD y) >>= fun _ => pure (Dat.str y.shown)) S) H p (fun a _ H' p' => ∀ v, IsD Z H' p' v a → Q v H') := by
        unfold dRepr2 at q
        simp only [e] at q
        exact q
      obtain ⟨c, q⟩ := q.need
      obtain ⟨y, ey, q⟩ := q.opt
      obtain ⟨c2, q⟩ := q.need
      exact .inr ⟨p, d, v, y, rfl, hv, c, ey, c2, q.pure xE s _ (isD_str.mpr rfl)⟩
  | [], _, q => exact (bad_no (S := S) q).elim
  | _ :: _ :: _, _, q => exact (bad_no (S := S) q).elim
end Zd

namespace Zd
open PySem PySem.Spec PyProof.Rows L2
/-! ### raise C(x) -/
def spIni (C : Addr) (f : Str) : Sp := fun vs H Q _ => ∃ (a : Addr) (v : V), vs = [.ref a, v] ∧ H a = some (exo a C none) ∧ ∀ dx, H dx = none → dx ≠ a → Q .non (upd (upd H dx (exd dx [(f, v)])) a (exo a C (some dx)))
theorem rd_ini {C : Addr} {f : Str} {H : Hp} {Q : XK} {E : XK} {v : V} (k : ∀ d H', H d = none → Same H H' → H' d = some (.xd [(f, v)]) → Q (.ref C) (some d) H') :
    [v].length ≤ 1000 ∧ ∀ a, H a = none → spIni C f (.ref a :: ([v] ++ [])) (upd H a (exo a C none)) (fun u H2 => u = .non ∧ ∃ (d : Addr) (fs : List (Str × V)), H2 a = some (exo a C (some d)) ∧ H2 d = some (exd d fs) ∧ H d = none ∧ Q (.ref C) (some d) (upd (del H2 a) d (.xd fs))) E := by
  refine ⟨Nat.le_of_ble_eq_true rfl, fun a na => ⟨a, v, rfl, upd_same, fun dx nd ne => ?_⟩⟩
  have nd' : H dx = none := (upd_ne ne).symm.trans nd
  refine ⟨rfl, dx, _, upd_same, (upd_ne ne).trans upd_same, nd', k dx _ nd' (fun b o e => ?_) upd_same⟩
  have n1 : b ≠ a := ne_of_none e na
  have n2 : b ≠ dx := ne_of_none e nd'
  rw [upd_ne n2, del_ne n1, upd_ne n1, upd_ne n2, upd_ne n1]
  exact e
section
variable {Z : Cz} {Er : ErW} {O : List Nat} {vs : Option (List Nat)} {te ta tb tc : TE} {tt tu : TT} {m m1 m2 m3 : Env → M Dat} {mb mc : Env → M Bool} {tl : TA} {ml : Env → M (List Dat)} {ts tr : TS} {ms mr : Env → M Flow}
def sRaise (c : String) (f : Str) (l : Env → M (List Dat)) (ρ : Env) : M Flow := l ρ >>= fun ds => M.opt (one ds) >>= fun d => fun S => .er c [.obj c [f] [d]] S
theorem js_raise {c : String} {C : Addr} {f : Str} {E : XK} (hC : Z.κ c = C) (hl : JA Z (ErOf Z E) O tl ml) : JS Z (ErOf Z E) O (fun _ σ H => tMkO C (spIni C f) [] tl σ H fun cls d H' => E cls d H') (sRaise c f ml) := fun σ H p ρ S D hE hS q =>
  hl σ H p ρ S _ hE hS (q.bndE.mono fun ds S1 H1 p1 e1 s1 q1 vs hv => by
    subst hC
    obtain ⟨x, ex, q1⟩ := Post.opt q1
    rw [one_is ex] at hv
    obtain ⟨v, rfl, hv1⟩ := isDs_one hv
    have k : ∀ H' p', Ext H1 p1 H' p' → IsS Z H' p' S1 → ErOf Z E c [.obj c [f] [x]] S1 H' p'.α p'.γ := q1
    refine rd_ini fun d H' nd sm ed => k H1 p1 Ext.refl s1 [f] [x] rfl d H' [v] nd sm ed rfl (.one ?_)
    have l2 : ∀ b, (⟨p1.α, [], p1.γ⟩ : Pl).has b → p1.has b := fun b h => h.imp id fun h => .inr (h.resolve_left List.not_mem_nil)
    exact IsD.less (p := p1) (p' := ⟨p1.α, [], p1.γ⟩) rfl l2 _ (hv1.ext (ExtE.same sm).s))
/-! ### d = {..}; d.update({..}) -/
def dicOf : Dat → Option (List Key × List Dat)
  | .dic ks ds => some (ks, ds)
  | _ => none
theorem dicOf_is {d : Dat} {k : List Key × List Dat} (h : dicOf d = some k) : d = .dic k.1 k.2 := by
  cases d <;> first | (cases h; rfl) | cases h
def sDUpd (i : Nat) (a b : Env → M Dat) (ρ : Env) : M Flow := M.need (decide (i < ρ.length)) >>= fun _ => a ρ >>= fun x => M.opt (dicOf x) >>= fun k => b (ρ.set i none) >>= fun y => M.opt (dicOf y) >>= fun l => M.need (noDup (k.1 ++ l.1) && decide ((k.1 ++ l.1).length ≤ 1000)) >>= fun _ => pure (.nx (ρ.set i (some (.dic (k.1 ++ l.1) (k.2 ++ l.2)))))
theorem js_dupd {i : Nat} (oi : i ∉ O) (h1 : JF Z Er O ta m1) (h2 : JF Z Er O tb m2) (hr : JS Z Er O tr mr) : JS Z Er O (tSeq (tAsg ta (gName i)) (tSeq (tDrop (tDUpd (tVar i) tb)) tr)) (sSeq (sDUpd i m1 m2) mr) := fun σ H p ρ S D hE hS q => by
  have q0 := q.bnd xS
  obtain ⟨lt, q0⟩ := Post.need q0
  have lt := of_decide_eq_true lt
  have ltσ : i < σ.length := by rw [hE.len]; exact lt
  refine h1 σ H p ρ S _ hE hS ((q0.bndK.of xS).mono fun x S1 H1 p1 e1 s1 q1 a na na1 nh hs ht => ?_)
  show tDUpd (tVar i) tb (σ.set i (some (.ref a))) H1 (fun _ H2 => tr D (σ.set i (some (.ref a))) H2)
  have eP : Ext H p H1 ⟨p1.α, p1.ω ++ [a], p1.γ⟩ := by
    have z := ExtC.plus (p := p) (α' := p1.α) ⟨e1.α, rfl, rfl, e1.k, e1.t⟩ na
    rw [← e1.ω, ← e1.γ] at z
    exact z.s
  have mA : a ∈ p1.ω ++ [a] := List.mem_append_right _ (List.mem_singleton.mpr rfl)
  have others : ∀ (j : Nat) (z : Option Dat) (d : Dat), (ρ.set i z)[j]? = some (some d) → j ≠ i → ρ[j]? = some (some d) ∧ (σ.set i (some (.ref a)))[j]? = σ[j]? := fun j z d h n => by
    rw [List.getElem?_set_ne fun c => n c.symm] at h
    exact ⟨h, List.getElem?_set_ne fun c => n c.symm⟩
  have hE' : IsE Z O H1 ⟨p1.α, p1.ω ++ [a], p1.γ⟩ (σ.set i (some (.ref a))) (ρ.set i none) := by
    have notI : ∀ (j : Nat) (d : Dat), (ρ.set i none)[j]? = some (some d) → j ≠ i := fun j d h c => by
      subst c
      rw [List.getElem?_set_self lt] at h
      cases h
    refine ⟨by rw [List.length_set, List.length_set]; exact hE.len, fun j d nj h => ?_, fun j d oj h => ?_, fun j k b oj ok ne ⟨d1, hj⟩ ⟨d2, hk⟩ h => ?_⟩
    · obtain ⟨g, e⟩ := others j none d h (notI j d h)
      rw [e]
      obtain ⟨v, g1, g2⟩ := hE.get j d nj g
      exact ⟨v, g1, g2.ext eP⟩
    · obtain ⟨g, e⟩ := others j none d h (notI j d h)
      rw [e]
      obtain ⟨b, g1, g2, g3⟩ := hE.own j d oj g
      exact ⟨b, g1, List.mem_append_left _ (by rw [e1.ω]; exact g2), g3.ext eP fun u z => e1.k _ _ z (hS.dj b g2).1⟩
    · obtain ⟨g, e⟩ := others j none d1 hj (notI j d1 hj)
      obtain ⟨g', e'⟩ := others k none d2 hk (notI k d2 hk)
      rw [e] at h
      rw [e']
      exact hE.dj j k b oj ok ne ⟨d1, g⟩ ⟨d2, g'⟩ h
  · obtain ⟨⟨ks, ds⟩, ek, q1⟩ := Post.opt q1
    rw [dicOf_is ek] at ht
    obtain ⟨vs, a1, a2, a3⟩ := ht
    refine ⟨.ref a, List.getElem?_set_self ltσ, a, rfl, .inl ⟨_, .inl a1⟩, h2 _ H1 _ _ S1 _ hE' hs (((q1.bndK.up xS eP).of xS).mono fun y S2 H2 p2 e2 s2 q2 b nb nb1 nhb hsb htb => ?_)⟩
    · obtain ⟨⟨ms, es⟩, el, q2⟩ := Post.opt q2
      rw [dicOf_is el] at htb
      obtain ⟨ws, b1, b2, b3⟩ := htb
      obtain ⟨c, q3⟩ := Post.need q2
      clear q q0 q1 q2
      rw [Bool.and_eq_true, decide_eq_true_eq] at c
      have ab : a ≠ b := fun z => na1 (by rw [z]; exact nb)
      have aα : a ∉ p1.α := (hs.dj a mA).1
      have H2a : H2 a = some (.dK (ks.zip vs)) := e2.k a _ a1 aα
      have m2 : a ∈ p2.ω := by rw [e2.ω]; exact mA
      have sz := sizeLine_eq
      have few : (ks ++ ms).length ≤ 1000 := c.2
      have a2 : ks.length = vs.length := a2
      have b2 : ms.length = ws.length := b2
      rw [List.length_append] at few
      refine ⟨b, ks.zip vs, ms.zip ws, rfl, ab, H2a, b1, by rw [List.length_zip, List.length_zip]; omega, ?_⟩
      rw [merge_new c.1 a2 b2]
      have ePut : Ext H2 p2 (L2.upd H2 a (.dK ((ks ++ ms).zip (vs ++ ws)))) p2 := ext_put m2
      have ePut2 : Ext H2 ⟨p2.α, p2.ω ++ [b], p2.γ⟩ (L2.upd H2 a (.dK ((ks ++ ms).zip (vs ++ ws)))) ⟨p2.α, p2.ω ++ [b], p2.γ⟩ := ext_put (List.mem_append_left _ m2)
      have e12 := eP.trans e2.s
      have g2 : p2.γ = p.γ := e12.γ
      have w2 : p2.ω = p.ω ++ [a] := by rw [e2.ω]; show p1.ω ++ [a] = _; rw [e1.ω]
      have sub2 : ∀ x, (⟨p2.α, p.ω, p.γ⟩ : Pl).has x → p2.has x := fun x h => by
        rcases h with h | h | h
        · exact .inl h
        · exact .inr (.inl (by rw [w2]; exact List.mem_append_left _ h))
        · exact .inr (.inr (by rw [g2]; exact h))
      have eX : Ext H p (L2.upd H2 a (.dK ((ks ++ ms).zip (vs ++ ws)))) ⟨p2.α, p.ω, p.γ⟩ := ⟨e12.α, ⟨[], by simp⟩, rfl, fun x o h n1 n2 => by rw [upd_ne (ne_of_none h na)]; exact e12.k x o h n1 n2, fun x n => by
        by_cases c : x = a
        · rw [c, upd_same]; exact nofun
        · rw [upd_ne c]; exact e12.t x n⟩
      have sX : IsS Z (L2.upd H2 a (.dK ((ks ++ ms).zip (vs ++ ws)))) ⟨p2.α, p.ω, p.γ⟩ S2 := by
        have z := (hsb.put (o := .dK ((ks ++ ms).zip (vs ++ ws))) (List.mem_append_left _ m2)).less (ω := p.ω) fun x h => List.mem_append_left _ (by rw [w2]; exact List.mem_append_left _ h)
        rw [← g2]
        exact z
      have nh3 : ¬ (⟨p2.α, p.ω, p.γ⟩ : Pl).has a := by
        rintro (h | h | h)
        · exact (hsb.dj a (List.mem_append_left _ m2)).1 h
        · exact hS.wt a (.inl h) na
        · exact hS.wt a (.inr h) na
      have it1 : IsDs Z (L2.upd H2 a (.dK ((ks ++ ms).zip (vs ++ ws)))) ⟨p2.α, p.ω, p.γ⟩ vs ds := IsDs.less (p := p2) (p' := ⟨p2.α, p.ω, p.γ⟩) rfl sub2 _ ((a3.ext e2.s).ext ePut)
      have it2 : IsDs Z (L2.upd H2 a (.dK ((ks ++ ms).zip (vs ++ ws)))) ⟨p2.α, p.ω, p.γ⟩ ws es := IsDs.less (p := ⟨p2.α, p2.ω ++ [b], p2.γ⟩) (p' := ⟨p2.α, p.ω, p.γ⟩) rfl (fun x h => (sub2 x h).imp id fun h => h.imp (List.mem_append_left _) id) _ (b3.ext ePut2)
      have hE3 : IsE Z O (L2.upd H2 a (.dK ((ks ++ ms).zip (vs ++ ws)))) ⟨p2.α, p.ω, p.γ⟩ (σ.set i (some (.ref a))) (ρ.set i (some (.dic (ks ++ ms) (ds ++ es)))) := by
        refine ⟨by rw [List.length_set, List.length_set]; exact hE.len, fun j d nj h => ?_, fun j d oj h => ?_, fun j k b oj ok ne ⟨d1, hj⟩ ⟨d2, hk⟩ h => ?_⟩
        · by_cases c : j = i
          · subst c
            rw [List.getElem?_set_self lt] at h
            cases h
            exact ⟨.ref a, List.getElem?_set_self ltσ, isD_dic.mpr ⟨a, _, rfl, ⟨upd_same, nh3⟩, by rw [List.length_append, List.length_append, a2, b2], it1.append it2⟩⟩
          · obtain ⟨g, e⟩ := others j _ d h c
            rw [e]
            obtain ⟨v, g1, g2⟩ := hE.get j d nj g
            exact ⟨v, g1, g2.ext eX⟩
        · have c : j ≠ i := fun z => oi (z ▸ oj)
          obtain ⟨g, e⟩ := others j _ d h c
          rw [e]
          obtain ⟨b', k1, k2, k3⟩ := hE.own j d oj g
          refine ⟨b', k1, k2, k3.ext eX fun u z => ?_⟩
          rw [upd_ne (ne_of_none z na)]
          have z1 := e1.k _ _ z (hS.dj b' k2).1
          exact e2.k _ _ z1 (not_fresh e1.α z (hS.dj b' k2).1)
        · have c1 : j ≠ i := fun z => oi (z ▸ oj)
          have c2 : k ≠ i := fun z => oi (z ▸ ok)
          obtain ⟨g, e⟩ := others j _ d1 hj c1
          obtain ⟨g', e'⟩ := others k _ d2 hk c2
          rw [e] at h
          rw [e']
          exact hE.dj j k b oj ok ne ⟨d1, g⟩ ⟨d2, g'⟩ h
      exact hr _ _ _ _ S2 D hE3 sX (q3 _ _ eX sX)
end
end Zd

namespace Zd
open PySem PySem.Spec PyProof.Rows L2 Zg

/-! ### what laws have in common -/
theorem nin {i : Nat} : i ∉ ([] : List Nat) := List.not_mem_nil
theorem lt_units {n : Nat} (h : n + 64 < cLine) : n + 1 < cLine := by omega
theorem hu70 {k : Nat} {A : Around} (r : Room k A) : A.units + 70 < cLine := by
  have := r.un
  omega
def Cal (P : Program) (w : World) (K : PySem.W.Frag) (mg : Str → Option Value) (base : Heap) (k : Nat) (x : Str) (ps : List Str) (sp : Sp) : Prop :=
  ∃ (f : Addr) (fd : FuncData), FnOk P w K mg base CX0 k f fd ps sp ∧ Binds K fd ps [] ∧ mg x = some (.ref f) ∧ PySem.W.keepIn K (.ref f) = true
def CalX (P : Program) (w : World) (K : PySem.W.Frag) (mg : Str → Option Value) (base : Heap) (k : Nat) (x : Str) (ps : List Str) (sp : Sp) : Prop :=
  ∃ (f : Addr) (fd : FuncData), FnOk P w K mg base (L2.CX P w) k f fd ps sp ∧ Binds K fd ps [] ∧ mg x = some (.ref f) ∧ PySem.W.keepIn K (.ref f) = true
def CalG (P : Program) (w : World) (K : PySem.W.Frag) (mg : Str → Option Value) (base : Heap) (k : Nat) (x : Str) (ps : List Str) (sp : Sp) : Prop :=
  ∃ (f : Addr) (fd : FuncData), FnG P w K mg base CX0 k f fd ps sp ∧ Binds K fd ps [] ∧ mg x = some (.ref f) ∧ PySem.W.keepIn K (.ref f) = true
/-- builtins whose names the module leaves alone -/
structure TxD (mg : Str → Option Value) : Prop where
  n_int : mg "int" = none
  n_len : mg "len" = none
  n_abs : mg "abs" = none
  n_bool : mg "bool" = none
  n_tuple : mg "tuple" = none
  n_isinstance : mg "isinstance" = none
  n_range : mg "range" = none
  n_max : mg "max" = none
  n_min : mg "min" = none
  n_all : mg "all" = none
  n_repr : mg "repr" = none
  n_str : mg "str" = none
  n_any : mg "any" = none
  n_list : mg "list" = none
  n_zip : mg "zip" = none
  n_enumerate : mg "enumerate" = none
def strsT (xs : List Str) : Dat := .tup (xs.map .str)
theorem strs_of {Z : Cz} {H : Hp} {p : Pl} : ∀ {xs : List Str}, IsDs Z H p (xs.map V.str) (xs.map Dat.str)
  | [] => isDs_nil.mpr rfl
  | x :: xs => isDs_cons.mpr ⟨_, _, rfl, isD_str.mpr rfl, strs_of⟩
/-- a module's tuple of texts -/
structure GTup (K : PySem.W.Frag) (mg : Str → Option Value) (nm : Str) (a : Addr) (xs : List Str) : Prop where
  g : mg nm = some (.ref a)
  sq : ∀ H, SqT K H a (xs.map V.str)
theorem GTup.isD {K : PySem.W.Frag} {mg : Str → Option Value} {nm : Str} {a : Addr} {xs : List Str} (h : GTup K mg nm a xs) {κ : String → Addr} (H : Hp) (p : Pl) : IsD ⟨K, κ⟩ H p (.ref a) (strsT xs) := isD_tup.mpr ⟨a, _, rfl, .inr h.sq, strs_of⟩
def strsOf : List Value → Option (List Str)
  | [] => some []
  | .str x _ :: r => (strsOf r).map (x :: ·)
  | _ :: _ => none
theorem vals_strsOf : ∀ {us : List Value} {xs : List Str}, strsOf us = some xs → Vals (xs.map V.str) us
  | [], xs, h => by cases h; exact .nil
  | u :: r, xs, h => by
    cases u with
    | str x t =>
      unfold strsOf at h
      cases q : strsOf r with
      | none => rw [q] at h; cases h
      | some ys => rw [q] at h; cases h; exact .cons ⟨t, rfl⟩ (vals_strsOf q)
    | _ => cases h
/-- the texts of a written tuple -/
def tupW (K : PySem.W.Frag) (a : Addr) : Option (List Str) := match K.lookup a with
  | some ⟨.type c, _, .seq its _, _⟩ => if decide (c = "tuple") = true then strsOf its.toList else none
  | _ => none
theorem tupW_sq {K : PySem.W.Frag} {a : Addr} {xs : List Str} (h : tupW K a = some xs) (l : xs.length ≤ 100) (H : Hp) : SqT K H a (xs.map V.str) := by
  unfold tupW at h
  split at h
  · rename_i c d its n sl hl
    by_cases hc : c = "tuple"
    · rw [if_pos (decide_eq_true hc)] at h
      subst hc
      refine .inr ⟨_, its, n, hl, rfl, rfl, ?_, vals_strsOf h⟩
      have z := (vals_strsOf h).length
      rw [List.length_map] at z
      have : its.size = its.toList.length := by simp
      have sz := sizeLine_eq
      omega
    · rw [if_neg (by rw [decide_eq_true_eq]; exact hc)] at h
      cases h
  · cases h
/-- a module's dict of tuples of texts -/
def lkT (z : Str) : List (Str × List Str) → Option (List Str)
  | [] => none
  | (k, xs) :: r => if k == z then some xs else lkT z r
def tabOk (K : PySem.W.Frag) (a : Addr) : List (Str × List Str) → Bool
  | [] => true
  | (k, xs) :: r => (match PySem.W.nsIn K a k with
    | some (some (.ref b)) => (match tupW K b with
      | some ys => decide (ys = xs) && decide (xs.length ≤ 100)
      | none => false)
    | _ => false) && tabOk K a r
structure GTab (K : PySem.W.Frag) (w : World) (mg : Str → Option Value) (nm : Str) (a : Addr) (tab : List (Str × List Str)) : Prop where
  g : mg nm = some (.ref a)
  kt : KTab K w a
  tab : ∀ z : Str, ∃ r, PySem.W.nsIn K a z = some r ∧ (match lkT z tab with | some xs => ∃ b : Addr, r = some (.ref b) ∧ ∀ H, SqT K H b (xs.map V.str) | none => r = none)
theorem tab_hit {K : PySem.W.Frag} {a : Addr} {z : Str} : ∀ {tab : List (Str × List Str)}, tabOk K a tab = true → ∀ xs, lkT z tab = some xs → ∃ b : Addr, PySem.W.nsIn K a z = some (some (.ref b)) ∧ ∀ H, SqT K H b (xs.map V.str)
  | [], _, _, h => by cases h
  | (k, ys) :: r, ok, xs, h => by
    unfold tabOk at ok
    rw [Bool.and_eq_true] at ok
    unfold lkT at h
    by_cases e : (k == z) = true
    · rw [if_pos e] at h
      cases h
      have e := beq_iff_eq.mp e
      subst e
      have o := ok.1
      split at o
      · rename_i b hb
        split at o
        · rename_i zs hz
          simp only [Bool.and_eq_true, decide_eq_true_eq] at o
          rw [o.1] at hz
          exact ⟨b, hb, tupW_sq hz o.2⟩
        · cases o
      · cases o
    · rw [if_neg e] at h
      exact tab_hit ok.2 xs h
theorem lk_none {z : Str} : ∀ {tab : List (Str × List Str)}, lkT z tab = none → ∀ k ∈ tab.map (·.1), (k == z) = false
  | [], _, _, m => by cases m
  | (k, ys) :: r, h, x, m => by
    unfold lkT at h
    by_cases e : (k == z) = true
    · rw [if_pos e] at h; cases h
    · rw [if_neg e] at h
      rcases List.mem_cons.mp m with m | m
      · rw [m]; exact Bool.eq_false_iff.mpr e
      · exact lk_none h x m
theorem keys_at {P : Params} : ∀ {l : List DictEntry} {ks : List Str}, l.map He.keyOf = He.keysIn P ks → ∀ e ∈ l, ∃ k t, e.key = .str k t ∧ k ∈ ks
  | [], _, _, _, m => by cases m
  | e :: r, [], h, _, _ => by cases h
  | e :: r, k :: ks, h, x, m => by
    obtain ⟨h2, h3⟩ : He.keyOf e = some (k, PyData.keyHash P k) ∧ r.map He.keyOf = He.keysIn P ks := List.cons.inj h
    rcases List.mem_cons.mp m with rfl | m
    · unfold He.keyOf at h2
      split at h2
      · rename_i y t q
        have e : y = k := congrArg Prod.fst (Option.some.inj h2)
        subst e
        exact ⟨_, t, q, List.mem_cons_self⟩
      · cases h2
    · obtain ⟨k', t, q1, q2⟩ := keys_at h3 x m
      exact ⟨k', t, q1, List.mem_cons_of_mem _ q2⟩
theorem gtab_of {K : PySem.W.Frag} {w : World} {mg : Str → Option Value} {nm : Str} {a : Addr} {tab : List (Str × List Str)} (g : mg nm = some (.ref a)) (h1 : He.dicW K a = some (He.keysIn w.params (tab.map (·.1)))) (h2 : tabOk K a tab = true) : GTab K w mg nm a tab := by
  refine ⟨g, ⟨He.dicW_ok h1⟩, fun z => ?_⟩
  cases q : lkT z tab with
  | some xs =>
    obtain ⟨b, e1, e2⟩ := tab_hit h2 xs q
    exact ⟨_, e1, b, rfl, e2⟩
  | none =>
    refine ⟨none, ?_, rfl⟩
    unfold He.dicW at h1
    unfold PySem.W.nsIn
    split at h1
    · rename_i c es n sl hl
      rw [hl]
      split at h1
      · have h1 := Option.some.inj h1
        have ks := keys_at h1
        have no := lk_none q
        have f : es.toList.find? (·.key.isStr z) = none := by
          refine List.find?_eq_none.mpr fun e m c => ?_
          obtain ⟨k, t, q1, q2⟩ := ks e m
          rw [q1] at c
          have := no k q2
          change (k == z) = true at c
          rw [this] at c
          cases c
        have rf : es.toList.any (·.refKey) = false := by
          refine Bool.eq_false_iff.mpr fun c => ?_
          obtain ⟨e, m, c⟩ := List.any_eq_true.mp c
          obtain ⟨k, t, q1, _⟩ := ks e m
          unfold DictEntry.refKey at c
          rw [q1] at c
          cases c
        simp only [f, rf]
        rfl
      · cases h1
    · cases h1
section
variable {Z : Cz} {Er : ErW} {O : List Nat} {vs : Option (List Nat)} {te ta tb tc : TE} {tt tu : TT} {m m1 m2 m3 : Env → M Dat} {mb mc : Env → M Bool} {tl : TA} {ml : Env → M (List Dat)} {ts tr : TS} {ms mr : Env → M Flow}
def xKGet (tab : List (Str × List Str)) (a : Env → M Dat) (ρ : Env) : M Dat := a ρ >>= fun d => M.opt (sT d) >>= fun z => pure (match lkT z tab with | some xs => strsT xs | none => .non)
theorem j_kget {w : World} {a : Addr} {tab : List (Str × List Str)} (h : ∀ z : Str, ∃ r, PySem.W.nsIn Z.K a z = some r ∧ (match lkT z tab with | some xs => ∃ b : Addr, r = some (.ref b) ∧ ∀ H, SqT Z.K H b (xs.map V.str) | none => r = none)) (hb : JD Z Er O te m) : JD Z Er O (tKGet Z.K w a (tC (.ref a)) te) (xKGet tab m) := fun σ H p ρ S Q hE hS q =>
  ⟨rfl, hb σ H p ρ S _ hE hS ((q.bnd xE).mono fun d S1 H1 p1 e1 s1 q1 v hv => by
    obtain ⟨z, ez, q1⟩ := Post.opt q1
    rw [sT_is ez] at hv
    obtain ⟨r, hr, hm⟩ := h z
    have k := q1.pure xE s1
    refine ⟨z, r, isD_str.mp hv, hr, fun u eu => ?_, fun en => ?_⟩
    · cases e : lkT z tab with
      | none => rw [e] at hm; rw [eu] at hm; cases hm
      | some xs =>
        rw [e] at hm k
        obtain ⟨b, eb, sq⟩ := hm
        rw [eu] at eb
        cases eb
        exact ⟨.ref b, rfl, k _ (isD_tup.mpr ⟨b, _, rfl, .inr sq, strs_of⟩)⟩
    · cases e : lkT z tab with
      | none => rw [e] at k; exact k .non (isD_non.mpr rfl)
      | some xs => rw [e] at hm; obtain ⟨b, eb, _⟩ := hm; rw [en] at eb; cases eb)⟩
def iRg1 (l : Env → M (List Dat)) (ρ : Env) : M (List Dat) := l ρ >>= fun ds => match ds with
  | [.int j] => M.need (decide (-(2 ^ 62) ≤ j ∧ j < 2 ^ 62)) >>= fun _ => pure (intsD 0 j.toNat)
  | _ => M.no
theorem ji_rg1 {X : XR} (hl : JA Z Er O tl ml) : JI Z Er O X (iRng1 tl) (iRg1 ml) := ji_rng1 hl
def hasT (x y : Str) : Bool := !(Builtin.Str.occurrences y x 0 y.length 1).isEmpty
def dInT (neg : Bool) (d e : Dat) : M Dat := match d, e with
  | .str x, .str y => pure (.bl (neg != hasT x y))
  | _, _ => M.no
theorem r_inT : JRD Z (fun x y H Q => ∃ i j, x = .str i ∧ y = .str j ∧ Q (.bl (!(Builtin.Str.occurrences j i 0 j.length 1).isEmpty)) H) (dInT false) := fun x y d e Er H p S Q hx hy s q => by
  unfold dInT at q
  split at q
  · exact ⟨_, _, isD_str.mp hx, isD_str.mp hy, q.pure xE s _ (isD_bl.mpr (by rw [Bool.false_bne]; rfl))⟩
  · exact (bad_no (S := S) q).elim
end
theorem m0_isascii {x : Str} {H : Hp} {Q : VK} (h : Q (.bl (Txt.isascii x)) H) : ∃ a, V.str x = .str a ∧ ([] : List V) = [] ∧ True ∧ Q (.bl (Txt.isascii a)) H := ⟨x, rfl, rfl, trivial, h⟩
theorem m0_isalpha {x : Str} {H : Hp} {Q : VK} (h : Q (.bl (Txt.isalpha x)) H) : ∃ a, V.str x = .str a ∧ ([] : List V) = [] ∧ True ∧ Q (.bl (Txt.isalpha a)) H := ⟨x, rfl, rfl, trivial, h⟩
theorem m0_islower {x : Str} {H : Hp} {Q : VK} (h : Q (.bl (Txt.islower x)) H) : ∃ a, V.str x = .str a ∧ ([] : List V) = [] ∧ True ∧ Q (.bl (Txt.islower a)) H := ⟨x, rfl, rfl, trivial, h⟩
/-! ### errors with one field -/
structure ExT (K : PySem.W.Frag) (mg : Str → Option Value) (CW C : Addr) (nm f : Str) : Prop where
  ox : OexC K C
  nf : PySem.W.findIn K (.ref C) f = some none
  me : PySem.W.exmOne K (.ref C) (.ref CW) = some true
  kc : PySem.W.kitOne K (.ref C) (.ref C) = some true
  kv : PySem.W.kitOne K (.ref C) (.type "ValueError") = some true
  g : mg nm = some (.ref C)
end Zd

namespace Zg
open PySem PySem.Spec PyProof.Rows L2
/-! ### a caught error that is kept behind its suite -/
section
variable {X : Cx} {pins : List (Addr × Obj)} {σ : L2.St} {H : Hp} {s : Shared}
/-- what is kept behind: the context with the error pinned -/
abbrev kept (X : Cx) (a : Addr) (oe : Obj) (pn : List (Addr × Obj)) : Cx := X.tr ((a, oe) :: pn) X.xe
theorem un_kept {a : Addr} {oe : Obj} {pn' : List (Addr × Obj)} (ok : X.Ok) (J : Inv (kept X a oe (X.pn ++ pins)) pn' σ H s) : Inv X pins σ H s where
  ok := ok
  os := J.os
  bare := J.bare
  base := J.base
  loc := J.loc
  cell := J.cell
  free := J.free
  freeC := J.freeC
  pin := fun q hq => J.pin q (List.mem_append.mpr (.inl (List.mem_cons.mpr (.inr hq))))
  hok := J.hok
  len := J.len
theorem kept_of {a : Addr} {oe : Obj} {pn pn' : List (Addr × Obj)} (ok : X.Ok) (J : Inv (X.suite a ((a, oe) :: pn)) pn' σ H s) : Inv (kept X a oe pn) pn' σ H s where
  ok := ok.toTry _ _
  os := J.os
  bare := J.bare
  base := J.base
  loc := J.loc
  cell := J.cell
  free := J.free
  freeC := J.freeC
  pin := J.pin
  hok := J.hok
  len := J.len
theorem sp_kept {a : Addr} {oe : Obj} {D : Ends} {fl : Flow} (ok : X.Ok) (h : SP (kept X a oe (X.pn ++ pins)) [] D fl s) : SP X pins D fl s := by
  match fl, h with
  | .next, ⟨σ', H', J, q⟩ => exact ⟨σ', H', un_kept ok J, q⟩
  | .brk, ⟨σ', H', J, q⟩ => exact ⟨σ', H', un_kept ok J, q⟩
  | .cont, ⟨σ', H', J, q⟩ => exact ⟨σ', H', un_kept ok J, q⟩
  | .ret _, ⟨v, σ', H', J, r, q⟩ => exact ⟨v, σ', H', un_kept ok J, r, q⟩
end
/-- what a try that keeps its error wishes of one that its body raises -/
def wKeep (K : PySem.W.Frag) (c : Value) (i : Nat) (ts tk : Addr → Value → Option Addr → TS) (D : Ends) : WX := fun cls d σ H =>
  PySem.W.exmOne K cls c = some true ∧ ∀ a, H a = none → ts a cls d { nx := fun σ' H' => tk a cls d D (σ'.set i none) H', rt := fun _ _ => False } (σ.set i (some (.ref a))) H
section
variable {X : Cx} {x n : Str} {c : Value} {i : Nat} {body suite rest : List Stmt} {b₀ : Stmt} {np pos pos' : Pos} {tb : WX → TS} {ts tk : Addr → Value → Option Addr → TS} {t0 : TS}
/-- try: body / except x as n: suite, and what stands behind, read in the light of the error that was caught -/
theorem pss_keep (hs : X.stack = X.env :: X.outer) (hf : X.env.frame = some X.env.locals) (hN : X.N.Nodup) (hi : X.N[i]? = some n) (hln : X.env.kindOf n = some .local) (hc : Names X x c)
    (hb : ∀ (W : WX) (pn : List (Addr × Obj)) (xe : Value → Shared → Prop), Takes (X.tr pn xe) W → PSs (X.tr pn xe) body (tb W))
    (hsu : ∀ (a : Addr) (oe : Obj) (cls : Value) (d : Option Addr) (pn : List (Addr × Obj)), Zc cls d oe → (∃ vs, oe.data = .fields vs) → PSs (X.suite a ((a, oe) :: pn)) (b₀ :: suite) (ts a cls d))
    (h0 : PSs X rest t0)
    (hk : ∀ (a : Addr) (oe : Obj) (cls : Value) (d : Option Addr) (pn : List (Addr × Obj)), Zc cls d oe → (∃ vs, oe.data = .fields vs) → PSs (kept X a oe pn) rest (tk a cls d)) :
    PSs X (.Try body [.ExceptHandler (some (.Name x np)) (some n) (b₀ :: suite) pos'] [] [] pos :: rest) (fun D σ H => tb (wKeep X.K c i ts tk D) { D with nx := t0 D } σ H) := by
  constructor
  intro pins s σ H D I h
  have ok := I.ok
  -- either as behind any statement, or with the error kept
  refine wpAny_execs_cons (thn (Q := fun fl s1 => SP X pins { D with nx := t0 D } fl s1 ∨ (fl = .next ∧ ∃ (a : Addr) (oe : Obj) (cls : Value) (d : Option Addr) (σ' : L2.St) (H' : Hp), Zc cls d oe ∧ (∃ vs, oe.data = .fields vs) ∧
    Inv (kept X a oe (X.pn ++ pins)) [] σ' H' s1 ∧ tk a cls d D σ' H')) ?_ fun fl s1 z => ?_)
  · have hfr : X.A.frames = some (X.env :: X.outer) := ok.frames.trans (congrArg some hs)
    refine wpAny_Try_except ?_
    refine wpAny_mono ((hb (wKeep X.K c i ts tk D) (X.pn ++ pins) _ (fun u s' xx => ?_)).run [] s σ H _ (I.toTry _) h) (fun fl s1 z => ?_) (fun e s1 he => he)
    · -- what the body raises is caught here
      obtain ⟨a, B, sI, pins', σ', H', cls, d, eu, J', nb, up, sky, na, os, ag, hyes, hgo⟩ := xx
      subst eu
      have J : Inv X pins σ' H' sI := J'.ofTry ok
      have air : Sky B (X.env :: X.outer) a (Zc cls d) X.env.locals s'.heap := hs ▸ sky
      refine Sky.land Zc.steady hfr hf air fun h1 fly1 up1 => ?_
      have J1 : Inv X pins σ' H' { s' with heap := h1 } := J.landed nb fly1.1 (up.trans up1) os ag
      obtain ⟨o1, v1, at1, z1, f1⟩ := fly1.there
      have off : a ∉ frs (X.env :: X.outer) := fun hm => by
        obtain ⟨_, o', e', no⟩ := fly1.2.2.1.mem hm
        rw [at1] at e'
        cases e'
        exact no _ f1
      have offL : a ≠ X.env.locals := fun z => off (List.mem_filterMap.mpr ⟨X.env, List.mem_cons_self, hf.trans (congrArg some z.symm)⟩)
      have offF : a ∉ X.fs := fun hm => by
        obtain ⟨e, m, q⟩ := List.mem_filterMap.mp hm
        exact off (List.mem_filterMap.mpr ⟨e, List.mem_cons_of_mem _ m, q⟩)
      have S1 := J1.suite at1 f1 na offL offF
      have cl : PySem.W.Looks (model X.prog X.w) h1 (typeOf (.ref a)) cls := fun A Q E s k q => wpAny_typeOf_ref (k _ _ at1) (z1.1.symm ▸ q)
      have fits := PySem.W.exm_one (M := model X.prog X.w) J1.kIn cl hyes
      have named : ∀ {Q : Value → Shared → Prop} {E : Value → Shared → Prop}, Q c { s' with heap := h1 } → wpAny (model X.prog X.w) (X.A.mark (some (.ref a))) (eval (.Name x np) X.env) Q E { s' with heap := h1 } := fun {Q E} q => by
        obtain ⟨g, nodb, m⟩ := hc
        rcases m with m | ⟨m, bt, nn⟩
        · exact ld_glob (X := X.suite a ((a, o1) :: (X.pn ++ pins))) S1 g m q nodb
        · exact ld_blt (X := X.suite a ((a, o1) :: (X.pn ++ pins))) S1 g m bt q nn nodb
      refine wpAny_handleBy_cons (codeAny_handlers_test (named (fits.here ?_))) (fun q => nomatch q)
      refine codeAny_handlers_suite_as (HandSPX.lands_againZ fly1 fun h2 fly2 up2 => ?_)
      obtain ⟨o2, v2, at2, z2, f2⟩ := fly2.there
      have S2 := (J.landed (s' := { s' with heap := h2 }) nb fly2.1 ((up.trans up1).trans up2) os ag).suite at2 f2 na offL offF
      refine store_ok (X := X.suite a ((a, o2) :: (X.pn ++ pins))) (v := .ref a) S2 hN hi (.inl hln) rfl (fun s3 S3 => ?_) (.inr hln)
      refine wpAny_mono ((hsu a o2 cls d (X.pn ++ pins) z2 ⟨_, f2⟩).run [] s3 _ H' _ S3 (hgo a na)) (fun fl s4 z => ?_) (fun _ _ z => False.elim z)
      match fl, z with
      | .next, ⟨σ4, H4, S4, q4⟩ => exact gone_ok (X := kept X a o2 (X.pn ++ pins)) (kept_of ok S4) hN hi hln fun s5 J5 => .inr ⟨rfl, a, o2, cls, d, _, _, z2, ⟨_, f2⟩, J5, q4⟩
      | .brk, ⟨_, _, _, q4⟩ => exact False.elim q4
      | .cont, ⟨_, _, _, q4⟩ => exact False.elim q4
      | .ret _, ⟨_, _, _, _, _, q4⟩ => exact False.elim q4
    · match fl, z with
      | .next, ⟨σ', H', J', q⟩ => exact wpAny_execs_nil (.inl ⟨σ', H', J'.ofTry ok, q⟩)
      | .brk, ⟨σ', H', J', q⟩ => exact .inl ⟨σ', H', J'.ofTry ok, q⟩
      | .cont, ⟨σ', H', J', q⟩ => exact .inl ⟨σ', H', J'.ofTry ok, q⟩
      | .ret _, ⟨v, σ', H', J', r, q⟩ => exact .inl ⟨v, σ', H', J'.ofTry ok, r, q⟩
  · rcases z with z | ⟨rfl, a, oe, cls, d, σ', H', zc, hd, J, q⟩
    · match fl, z with
      | .next, ⟨σ', H', J, q⟩ => exact h0.run pins s1 σ' H' D J q
      | .brk, z => exact z
      | .cont, z => exact z
      | .ret _, z => exact z
    · exact thn ((hk a oe cls d (X.pn ++ pins) zc hd).run [] s1 σ' H' D J q) fun fl s2 z => sp_kept ok z
end
/-- what an own exception class must have, so that isinstance and fields are read of its objects -/
structure ExcK (K : PySem.W.Frag) (C : Addr) : Prop where
  cl : (PySem.W.clsIn K C).isSome = true
  ga : PySem.W.findIn K (.ref C) "__getattribute__" = some (some (.builtin "BaseException.__getattribute__"))
  gg : PySem.W.findIn K (.ref C) "__getattr__" = some none
  su : PySem.W.subIn K (.ref C) (.type "BaseException") = some true
  ha : PySem.W.findIn K (.ref C) "__class__" = some (some (.builtin "object.__class__"))
  hn : PySem.W.specialIn K (.builtin "object.__class__") "__get__" = some (some (.builtin "getset_descriptor.__get__"))
  ht : PySem.W.takesIn K (.builtin "object.__class__") = some true
  hm : PySem.W.mroIn K C (.type "object") = some true
  hd : PySem.W.hasDictIn K C = true
section
variable {X : Cx} {a : Addr} {oe : Obj} {cls : Value} {d : Option Addr}
theorem held_at {pins : List (Addr × Obj)} {σ : L2.St} {H : Hp} {s : Shared} {C dd : Addr} {fs : List (Str × V)} (hp : (a, oe) ∈ X.pn) (hz : Zc cls d oe) (hf : ∃ vs, oe.data = .fields vs) (I : Inv X pins σ H s) (ec : cls = .ref C) (ed : d = some dd) (ea : H dd = some (.xd fs)) :
    ∃ (od : Obj) (mA : Str → Option Value), PySem.W.InstAt s.heap a oe C (some od) ∧ (∀ y, PySem.W.lookIn y od = some (mA y)) ∧ ∀ y, RelO (fs.lookup y) (mA y) := by
  subst ec
  subst ed
  obtain ⟨ha, _⟩ := I.pin (a, oe) (List.mem_append.mpr (.inl hp))
  obtain ⟨vs, hd⟩ := hf
  have z : ObjOk X.prog X.w H s.heap dd (.xd fs) := I.hok dd _ ea
  obtain ⟨mA, hns, hr⟩ := z
  obtain ⟨od, ho, hl⟩ := lookIn_ns hns
  refine ⟨od, mA, ⟨ha, hz.1, ?_, ?_⟩, hl, hr⟩
  · unfold PySem.W.notCls
    rw [hd]
  · rw [hz.2]
    exact ho
/-- isinstance(e, c), e the error that is kept -/
def rIsP (K : PySem.W.Frag) (a : Addr) (cls : Value) (d : Option Addr) : List V → Hp → VK → Prop := fun xs H Q =>
  ∃ (C dd : Addr) (fs : List (Str × V)) (c : V) (cv : Value) (b : Bool), xs = [.ref a, c] ∧ cls = .ref C ∧ ExcK K C ∧ d = some dd ∧ H dd = some (.xd fs) ∧ (∀ u, RelV c u → u = cv) ∧ PySem.W.kitOne K (.ref C) cv = some b ∧ Q (.bl b) H
theorem call_isP (hp : (a, oe) ∈ X.pn) (hz : Zc cls d oe) (hf : ∃ vs, oe.data = .fields vs) : CallR X (.builtin "isinstance") (rIsP X.K a cls d) := by
  intro pins s σ H xs us Q I r h
  obtain ⟨C, dd, fs, c, cv, b, rfl, ec, T, ed, ea, hcv, e, q⟩ := h
  cases r with
  | cons rx rr =>
    cases rr with
    | cons rt rr =>
      cases rr
      cases rx
      have ev := hcv _ rt
      subst ev
      obtain ⟨od, mA, J, _⟩ := held_at hp hz hf I ec ed ea
      exact PySem.W.kia_one (PySem.W.kitx_exc T.cl T.ga T.gg T.su T.ha T.hn T.ht T.hm) I.kIn J e (fun z => nomatch z) fun tk => ⟨.bl b, H, I.kept (t' := tk) fun _ _ z => z, rfl, q⟩
/-- e.f, e the error that is kept -/
def tXfP (K : PySem.W.Frag) (a : Addr) (cls : Value) (d : Option Addr) (f : Str) (te : TE) : TE := fun σ H Q => te σ H fun x H1 => x = .ref a ∧
  ∃ (C dd : Addr) (fs : List (Str × V)) (v : V), cls = .ref C ∧ ExcK K C ∧ PySem.W.findIn K (.ref C) f = some none ∧ d = some dd ∧ H1 dd = some (.xd fs) ∧ fs.lookup f = some v ∧ Q v H1
theorem pe_xfP {e : Expr} {te : TE} {pos : Pos} {n : Str} (hp : (a, oe) ∈ X.pn) (hz : Zc cls d oe) (hf : ∃ vs, oe.data = .fields vs) (he : PE X e te) (hb : attributeBase e n X.env (eval e X.env) = eval e X.env := by rfl) :
    PE X (.Attribute e n pos) (tXfP X.K a cls d n te) := by
  constructor
  intro pins s σ H Q I h
  refine attr_of hb (thn (he.run pins s σ H _ I h) fun u s1 hh => ?_)
  obtain ⟨x, H1, I1, rx, ex, C, dd, fs, v, ec, T, no, ed, ea, l, q⟩ := hh
  subst ex
  obtain rfl : u = Value.ref a := rx
  obtain ⟨od, mA, J, hl, hr⟩ := held_at hp hz hf I1 ec ed ea
  obtain ⟨u, hu, ru⟩ := RelO.some_of (v := v) (o := mA n) (by rw [← l]; exact hr n)
  exact HandSPX.exc_get I1.kIn J T.ga T.gg T.su (PySem.W.findObj_own T.hd no rfl ((hl n).trans (congrArg some hu))) (handed_of ru) ⟨v, H1, I1.tok _, ru, q⟩
end
theorem kit_sub {K : PySem.W.Frag} {C : Addr} {n : String} (hm : PySem.W.kitMeta n = true) (h : PySem.W.subIn K (.ref C) (.type n) = some true) : PySem.W.kitOne K (.ref C) (.type n) = some true := by
  unfold PySem.W.kitOne PySem.W.kitCls
  rw [if_neg (by simp)]
  first
    | (rw [if_pos hm]; exact h)
    | (simp only [hm, if_true]; exact h)
theorem rd_ost {K : PySem.W.Frag} {a C : Addr} {f : Str} {y : V} {H : Hp} {R : Hp → Prop} (T : OexC K C) (no : PySem.W.findIn K (.ref C) f = some none) (e : H a = some (exo a C none)) (k : ∀ dx, H dx = none → dx ≠ a → R (upd (upd H dx (exd dx [(f, y)])) a (exo a C (some dx)))) :
    ∃ a' C' : Addr, V.ref a = .ref a' ∧ OexC K C' ∧ PySem.W.findIn K (.ref C') f = some none ∧ ((H a' = some (exo a' C' none) ∧ ∀ dx, H dx = none → dx ≠ a' → R (upd (upd H dx (exd dx [(f, y)])) a' (exo a' C' (some dx)))) ∨
      ∃ (dx : Addr) (fs : List (Str × V)), H a' = some (exo a' C' (some dx)) ∧ H dx = some (exd dx fs) ∧ fs.length ≤ 900 ∧ R (upd H dx (exd dx ((f, y) :: fs)))) := ⟨a, C, rfl, T, no, .inl ⟨e, k⟩⟩
theorem pss_none {X : Cx} {l : List Stmt} : PSs X l (fun _ _ _ => False) := ⟨fun _ _ _ _ _ _ h => h.elim⟩
section
variable {X : Cx} {a : Addr} {oe : Obj} {cls : Value} {d : Option Addr} {pn : List (Addr × Obj)}
theorem call_isK (hz : Zc cls d oe) (hf : ∃ vs, oe.data = .fields vs) : CallR (kept X a oe pn) (.builtin "isinstance") (rIsP X.K a cls d) := call_isP (X := kept X a oe pn) List.mem_cons_self hz hf
theorem pe_xfK {e : Expr} {te : TE} {pos : Pos} {n : Str} (hz : Zc cls d oe) (hf : ∃ vs, oe.data = .fields vs) (he : PE (kept X a oe pn) e te) (hb : attributeBase e n X.env (eval e X.env) = eval e X.env := by rfl) :
    PE (kept X a oe pn) (.Attribute e n pos) (tXfP X.K a cls d n te) := pe_xfP (X := kept X a oe pn) List.mem_cons_self hz hf he hb
end

section
variable {X : Cx} {CX : CXT} {k : Nat} {f : Addr} {fd : FuncData} {ps : List Str} {sp : Sp} {x : Str} {p pos : Pos} {e : Expr} {es : List Expr} {t : TA}
/-- f(e, ..) in a try: what it raises goes to the wish that the slots at hand have -/
def tCallX (sp : Sp) (E : L2.St → XK) (t : TA) : TE := fun σ H Q => tCall sp [] (E σ) t σ H Q
theorem pe_callXs {E : L2.St → XK} (F : FnOk X.prog X.w X.K X.mg X.base CX k f fd ps sp) (hr : Room k X.A) (hg : Gl X x) (hm : X.mg x = some (.ref f)) (hk : PySem.W.keepIn X.K (.ref f) = true)
    (hb : Binds X.K fd ps []) (hx : ∀ σ, PassesAt CX X σ (E σ)) (ha : PA X (e :: es) t) (hdb : (x == ("__debug__" : Str)) = false := by decide)
    (he : starEach (e :: es) X.env = (false, eval e X.env) :: starEach es X.env := by rfl) (hpl : (backTo pos (starEach es X.env)).any (·.1) = false := by rfl) :
    PE X (.Call (.Name x p) (e :: es) [] pos) (tCallX sp E t) := by
  constructor
  intro pins s σ H Q I h
  refine wpAny_Call_Name_kw (ld_glob I hg hm (PySem.W.callWith_K (h₀ := X.base) I.ok.mod.kin hk (thn (ha.run pos pins s σ H _ I h) fun us s1 z => ?_) he hpl) hdb)
  obtain ⟨vs, H1, J, rel, q⟩ := z
  have q' : sp vs H1 Q (E σ) := by rw [← List.append_nil vs]; exact q
  exact ⟨J.kIn, run_fnS (us := us) (vs := vs) F hr hb (hx σ) J rel q'⟩
end
/-- a test that is a choice -/
def tIfT (t u v : TT) : TT := fun σ H Q => t σ H fun c H1 => if c = true then u σ H1 Q else v σ H1 Q
theorem pt_ifExp {X : Cx} {a b c : Expr} {pos : Pos} {tc ta tb : TT} (hc : PT X c tc) (ha : PT X a ta) (hb : PT X b tb) : PT X (.IfExp c a b pos) (tIfT tc ta tb) := by
  refine ⟨fun pins s σ H Q I h => ?_⟩
  refine PyProof.Rows.isTrue_IfExp (thn (hc.run pins s σ H _ I h) fun d s1 ⟨H1, I1, q1⟩ => ?_)
  cases d with
  | true => exact ha.run pins s1 σ H1 Q I1 q1
  | false => exact hb.run pins s1 σ H1 Q I1 q1
end Zg
namespace Zd
open PySem PySem.Spec PyProof.Rows L2 Zg
def bIf (c a b : Env → M Bool) (ρ : Env) : M Bool := c ρ >>= fun x => if x = true then a ρ else b ρ
theorem jb_if {Z : Cz} {Er : ErW} {O : List Nat} {tt tu tv : TT} {mb mc md : Env → M Bool} (hc : JB Z Er O tt mb) (ha : JB Z Er O tu mc) (hb : JB Z Er O tv md) : JB Z Er O (tIfT tt tu tv) (bIf mb mc md) := fun σ H p ρ S Q hE hS q =>
  hc σ H p ρ S _ hE hS ((q.bnd xE).mono fun d S1 H1 p1 e1 s1 q1 v hv => by
    subst hv
    cases v with
    | true => exact ha σ H1 p1 ρ S1 Q (hE.ext e1 hS) s1 q1
    | false => exact hb σ H1 p1 ρ S1 Q (hE.ext e1 hS) s1 q1)
end Zd

namespace Zd
open PySem PySem.Spec PyProof.Rows L2 Zg
def top (i : Nat) : Stmt := PySem.Challenge.pw_widerkeys_k75_what_is_no_plan_or_run.main.body.getD i (.Pass ⟨0, 0, 0, 0⟩)
abbrev t_STEP_FORMS : List (Str × List Str) := [("add", ["column"]), ("drop", ["column", "side"]), ("up", ["column"]), ("no up", ["column"]), ("down", ["column", "rule"]), ("no down", ["column"]), ("fill", ["column", "manner"]), ("fill back", ["column", "manner", "rule"]), ("release", ["program"]), ("withdraw", ["program"]), ("grow", ["number"]), ("purge", ["number"])]
abbrev t_EVENT_FORMS : List (Str × List Str) := [("there", ["column", "row", "number"]), ("begin", ["step"]), ("end", ["step"]), ("set", ["program", "edition", "column", "row", "number"]), ("copy", ["program", "edition", "column", "row", "row"]), ("come", ["program", "edition", "column", "row", "number"]), ("visit", ["row"]), ("read", ["program", "edition", "column", "row"]), ("match", ["program", "edition", "column", "row", "column", "row"]), ("order", ["program", "edition", "column", "row", "row"])]
structure TxN (mg : Str → Option Value) (t1 t2 : Tok) : Prop where
  g_MOST_LETTERS : mg "MOST_LETTERS" = some (.int 8 t1)
  g_GREATEST_COUNT : mg "GREATEST_COUNT" = some (.int 999999999 t2)
def LB : List Dat → M Dat := fun _ => M.no
abbrev s_BadPlan___init__ : Stmt := (inClass (top 2) 0)
abbrev N_BadPlan___init__ : List Str := ["self", "index"]
abbrev P_BadPlan___init__ : List Str := ["self", "index"]
theorem sc_BadPlan___init__ : FnScope N_BadPlan___init__ P_BadPlan___init__ (defScope s_BadPlan___init__) := ⟨rfl, rfl, rfl, by decide +kernel, rfl, by decide +kernel, by decide +kernel⟩
abbrev s_BadRun___init__ : Stmt := (inClass (top 3) 0)
abbrev N_BadRun___init__ : List Str := ["self", "index"]
abbrev P_BadRun___init__ : List Str := ["self", "index"]
theorem sc_BadRun___init__ : FnScope N_BadRun___init__ P_BadRun___init__ (defScope s_BadRun___init__) := ⟨rfl, rfl, rfl, by decide +kernel, rfl, by decide +kernel, by decide +kernel⟩
abbrev s_is_integer : Stmt := (top 5)
abbrev N_is_integer : List Str := ["value"]
abbrev P_is_integer : List Str := ["value"]
theorem sc_is_integer : FnScope N_is_integer P_is_integer (defScope s_is_integer) := ⟨rfl, rfl, rfl, by decide +kernel, rfl, by decide +kernel, by decide +kernel⟩
def L_is_integer : List Dat → M Dat := runD N_is_integer.length (sRet (xAnd (xCB dIsi (xCons (xVar 0) (xCons (xC (.ty "int")) xNil))) (xNot (xCB dIsi (xCons (xVar 0) (xCons (xC (.ty "bool")) xNil))))))
abbrev s_is_name : Stmt := (top 13)
abbrev N_is_name : List Str := ["value"]
abbrev P_is_name : List Str := ["value"]
theorem sc_is_name : FnScope N_is_name P_is_name (defScope s_is_name) := ⟨rfl, rfl, rfl, by decide +kernel, rfl, by decide +kernel, by decide +kernel⟩
def L_is_name : List Dat → M Dat := runD N_is_name.length (sSeq (sIf (bOr (bNot (bTest (xCB dIsi (xCons (xVar 0) (xCons (xC (.ty "str")) xNil))))) (bTest (xOp dGt (xCB dLenS (xCons (xVar 0) xNil)) (xC (.int 8))))) (sRet (xC (.bl false))) sNx)
    (sRet (xAnd (xUn (dM0' Txt.isascii) (xVar 0)) (xAnd (xUn (dM0' Txt.isalpha) (xVar 0)) (xUn (dM0' Txt.islower) (xVar 0))))))
abbrev s_is_count : Stmt := (top 17)
abbrev N_is_count : List Str := ["value"]
abbrev P_is_count : List Str := ["value"]
theorem sc_is_count : FnScope N_is_count P_is_count (defScope s_is_count) := ⟨rfl, rfl, rfl, by decide +kernel, rfl, by decide +kernel, by decide +kernel⟩
def L_is_count : List Dat → M Dat := runD N_is_count.length (sRet (xAnd (xCall L_is_integer (xCons (xVar 0) xNil)) (xOp dGe (xVar 0) (xC (.int 0)))))
abbrev s_is_plain_part : Stmt := (top 16)
abbrev N_is_plain_part : List Str := ["part", "item"]
abbrev P_is_plain_part : List Str := ["part", "item"]
theorem sc_is_plain_part : FnScope N_is_plain_part P_is_plain_part (defScope s_is_plain_part) := ⟨rfl, rfl, rfl, by decide +kernel, rfl, by decide +kernel, by decide +kernel⟩
def L_is_plain_part : List Dat → M Dat := runD N_is_plain_part.length (sSeq (sIf (bTest (xOp dEq (xVar 0) (xC (.str "side")))) (sRet (xOp (dInS false) (xVar 1) (xC (strsT ["narrow", "wide"])))) sNx)
    (sSeq (sIf (bTest (xOp dEq (xVar 0) (xC (.str "rule")))) (sRet (xOp (dInS false) (xVar 1) (xC (strsT ["cut", "empty", "refuse"])))) sNx)
    (sSeq (sIf (bTest (xOp dEq (xVar 0) (xC (.str "manner")))) (sRet (xOp (dInS false) (xVar 1) (xC (strsT ["empty", "anew"])))) sNx)
    (sSeq (sIf (bTest (xOp dEq (xVar 0) (xC (.str "number")))) (sRet (xCall L_is_integer (xCons (xVar 1) xNil))) sNx)
    (sRet (xCall L_is_count (xCons (xVar 1) xNil)))))))
abbrev s_compares_itself : Stmt := (top 18)
abbrev N_compares_itself : List Str := ["event"]
abbrev P_compares_itself : List Str := ["event"]
theorem sc_compares_itself : FnScope N_compares_itself P_compares_itself (defScope s_compares_itself) := ⟨rfl, rfl, rfl, by decide +kernel, rfl, by decide +kernel, by decide +kernel⟩
def L_compares_itself : List Dat → M Dat := runD N_compares_itself.length (sSeq (sIf (bTest (xOp dEq (xOp dIxT (xVar 0) (xC (.int 0))) (xC (.str "match")))) (sRet (xOp dEqT (jSl dCutT (xVar 0) (oSome (xC (.int 3))) (oSome (xC (.int 5)))) (jSl dCutT (xVar 0) (oSome (xC (.int 5))) (oSome (xC (.int 7)))))) sNx)
    (sRet (xAnd (xOp dEq (xOp dIxT (xVar 0) (xC (.int 0))) (xC (.str "order"))) (xOp dEq (xOp dIxT (xVar 0) (xC (.int 4))) (xOp dIxT (xVar 0) (xC (.int 5)))))))
abbrev s__first_word : Stmt := (top 19)
abbrev N__first_word : List Str := ["value"]
abbrev P__first_word : List Str := ["value"]
theorem sc__first_word : FnScope N__first_word P__first_word (defScope s__first_word) := ⟨rfl, rfl, rfl, by decide +kernel, rfl, by decide +kernel, by decide +kernel⟩
def L__first_word : List Dat → M Dat := runD N__first_word.length (sSeq (sIf (bOr (bNot (bTest (xCB dIsi (xCons (xVar 0) (xCons (xC (.ty "tuple")) xNil))))) (bOr (bNot (bTru (xVar 0))) (bNot (bTest (xCB dIsi (xCons (xOp dIxT (xVar 0) (xC (.int 0))) (xCons (xC (.ty "str")) xNil))))))) (sRet (xC (.str ""))) sNx)
    (sRet (xOp dIxT (xVar 0) (xC (.int 0)))))
abbrev s_step_form : Stmt := (top 14)
abbrev N_step_form : List Str := ["value"]
abbrev P_step_form : List Str := ["value"]
theorem sc_step_form : FnScope N_step_form P_step_form (defScope s_step_form) := ⟨rfl, rfl, rfl, by decide +kernel, rfl, by decide +kernel, by decide +kernel⟩
def L_step_form : List Dat → M Dat := runD N_step_form.length (sRet (xKGet t_STEP_FORMS (xCall L__first_word (xCons (xVar 0) xNil))))
abbrev s_event_form : Stmt := (top 15)
abbrev N_event_form : List Str := ["value"]
abbrev P_event_form : List Str := ["value"]
theorem sc_event_form : FnScope N_event_form P_event_form (defScope s_event_form) := ⟨rfl, rfl, rfl, by decide +kernel, rfl, by decide +kernel, by decide +kernel⟩
def L_event_form : List Dat → M Dat := runD N_event_form.length (sRet (xKGet t_EVENT_FORMS (xCall L__first_word (xCons (xVar 0) xNil))))
abbrev s__is_count : Stmt := (top 28)
abbrev N__is_count : List Str := ["value"]
abbrev P__is_count : List Str := ["value"]
theorem sc__is_count : FnScope N__is_count P__is_count (defScope s__is_count) := ⟨rfl, rfl, rfl, by decide +kernel, rfl, by decide +kernel, by decide +kernel⟩
def L__is_count : List Dat → M Dat := runD N__is_count.length (sRet (xAnd (xCall L_is_count (xCons (xVar 0) xNil)) (xOp dLe (xVar 0) (xC (.int 999999999)))))
abbrev s__is_part : Stmt := (top 30)
abbrev N__is_part : List Str := ["part", "item"]
abbrev P__is_part : List Str := ["part", "item"]
theorem sc__is_part : FnScope N__is_part P__is_part (defScope s__is_part) := ⟨rfl, rfl, rfl, by decide +kernel, rfl, by decide +kernel, by decide +kernel⟩
def L__is_part : List Dat → M Dat := runD N__is_part.length (sSeq (sIf (bTest (xOp (dInS false) (xVar 0) (xC (strsT ["column", "program"])))) (sRet (xCall L_is_name (xCons (xVar 1) xNil))) sNx)
    (sSeq (sIf (bTest (xOp (dInS false) (xVar 0) (xC (strsT ["edition", "row"])))) (sRet (xCall L__is_count (xCons (xVar 1) xNil))) sNx)
    (sRet (xCall L_is_plain_part (xCons (xVar 0) (xCons (xVar 1) xNil))))))
abbrev s__are_parts : Stmt := (top 29)
abbrev N__are_parts : List Str := ["form", "items", "part", "item"]
abbrev P__are_parts : List Str := ["form", "items"]
theorem sc__are_parts : FnScope N__are_parts P__are_parts (defScope s__are_parts) := ⟨rfl, rfl, rfl, by decide +kernel, rfl, by decide +kernel, by decide +kernel⟩
def L__are_parts : List Dat → M Dat := runD N__are_parts.length (sSeq (sIf (bTest (xOp dNe (xCB dLen (xCons (xVar 1) xNil)) (xCB dLen (xCons (xVar 0) xNil)))) (sRet (xC (.bl false))) sNx)
    (sRet (xCB dAll (xCons (xLc (iZipM (xCons (xVar 0) (xCons (xVar 1) xNil))) (gT 2 (gCo (gN 2) (gCo (gN 3) gNl))) bYes (xCall L__is_part (xCons (xVar 2) (xCons (xVar 3) xNil))) [2, 3]) xNil))))
abbrev s_is_step_form : Stmt := (top 24)
abbrev N_is_step_form : List Str := ["value", "form"]
abbrev P_is_step_form : List Str := ["value"]
theorem sc_is_step_form : FnScope N_is_step_form P_is_step_form (defScope s_is_step_form) := ⟨rfl, rfl, rfl, by decide +kernel, rfl, by decide +kernel, by decide +kernel⟩
def L_is_step_form : List Dat → M Dat := runD N_is_step_form.length (sSeq (sAsg (xCall L_step_form (xCons (xVar 0) xNil)) (gN 1))
    (sRet (xAnd (xOp dNotN (xVar 1) (xC .non)) (xCall L__are_parts (xCons (xVar 1) (xCons (jSl dCutT (xVar 0) (oSome (xC (.int 1))) oNone) xNil))))))
abbrev s_is_event_form : Stmt := (top 25)
abbrev N_is_event_form : List Str := ["value", "form"]
abbrev P_is_event_form : List Str := ["value"]
theorem sc_is_event_form : FnScope N_is_event_form P_is_event_form (defScope s_is_event_form) := ⟨rfl, rfl, rfl, by decide +kernel, rfl, by decide +kernel, by decide +kernel⟩
def L_is_event_form : List Dat → M Dat := runD N_is_event_form.length (sSeq (sAsg (xCall L_event_form (xCons (xVar 0) xNil)) (gN 1))
    (sSeq (sIf (bOr (bTest (xOp dIsN (xVar 1) (xC .non))) (bTest (xOp dNe (xCB dLen (xCons (xVar 0) xNil)) (xOp dAdd (xCB dLen (xCons (xVar 1) xNil)) (xC (.int 1)))))) (sRet (xC (.bl false))) sNx)
    (sSeq (sIf (bTest (xOp dEqT (xVar 1) (xTup (xCons (xC (.str "step")) xNil)))) (sRet (xCall L_is_step_form (xCons (xOp dIxT (xVar 0) (xC (.int 1))) xNil))) sNx)
    (sRet (xAnd (xCall L__are_parts (xCons (xVar 1) (xCons (jSl dCutT (xVar 0) (oSome (xC (.int 1))) oNone) xNil))) (xNot (xCall L_compares_itself (xCons (xVar 0) xNil))))))))
abbrev s_row_of_step : Stmt := (top 26)
abbrev N_row_of_step : List Str := ["step", "word"]
abbrev P_row_of_step : List Str := ["step"]
theorem sc_row_of_step : FnScope N_row_of_step P_row_of_step (defScope s_row_of_step) := ⟨rfl, rfl, rfl, by decide +kernel, rfl, by decide +kernel, by decide +kernel⟩
def L_row_of_step : List Dat → M Dat := runD N_row_of_step.length (sRet (xJoin (xC (.str " ")) (xLc (iTp (xVar 0)) (gN 1) bYes (xUn dFmt (xVar 1)) [1])))
abbrev s_row_of_event : Stmt := (top 27)
abbrev N_row_of_event : List Str := ["event"]
abbrev P_row_of_event : List Str := ["event"]
theorem sc_row_of_event : FnScope N_row_of_event P_row_of_event (defScope s_row_of_event) := ⟨rfl, rfl, rfl, by decide +kernel, rfl, by decide +kernel, by decide +kernel⟩
def L_row_of_event : List Dat → M Dat := runD N_row_of_event.length (sSeq (sIf (bTest (xOp (dInS false) (xOp dIxT (xVar 0) (xC (.int 0))) (xTup (xCons (xC (.str "begin")) (xCons (xC (.str "end")) xNil))))) (sRet (xJoined [(xUn dFmt (xOp dIxT (xVar 0) (xC (.int 0)))), (xC (.str " ")), (xUn dFmt (xCall L_row_of_step (xCons (xOp dIxT (xVar 0) (xC (.int 1))) xNil)))])) sNx)
    (sRet (xCall L_row_of_step (xCons (xVar 0) xNil))))
abbrev s_show_plan : Stmt := (top 32)
abbrev N_show_plan : List Str := ["plan", "index", "step"]
abbrev P_show_plan : List Str := ["plan"]
theorem sc_show_plan : FnScope N_show_plan P_show_plan (defScope s_show_plan) := ⟨rfl, rfl, rfl, by decide +kernel, rfl, by decide +kernel, by decide +kernel⟩
def L_show_plan : List Dat → M Dat := runD N_show_plan.length (sSeq (sIf (bNot (bTest (xCB dIsi (xCons (xVar 0) (xCons (xC (.ty "tuple")) xNil))))) (sRaise "BadPlan" "index" (xCons (xC .non) xNil)) sNx)
    (sSeq (sFor (iEnM (xCons (xVar 0) xNil)) (gT 2 (gCo (gN 1) (gCo (gN 2) gNl))) (sIf (bNot (bTest (xCall L_is_step_form (xCons (xVar 2) xNil)))) (sRaise "BadPlan" "index" (xCons (xVar 1) xNil)) sNx))
    (sRet (xJoin (xC (.str "\n")) (xLc (iTp (xVar 0)) (gN 2) bYes (xCall L_row_of_step (xCons (xVar 2) xNil)) [2])))))
abbrev s_show_run : Stmt := (top 33)
abbrev N_show_run : List Str := ["run", "index", "event"]
abbrev P_show_run : List Str := ["run"]
theorem sc_show_run : FnScope N_show_run P_show_run (defScope s_show_run) := ⟨rfl, rfl, rfl, by decide +kernel, rfl, by decide +kernel, by decide +kernel⟩
def L_show_run : List Dat → M Dat := runD N_show_run.length (sSeq (sIf (bNot (bTest (xCB dIsi (xCons (xVar 0) (xCons (xC (.ty "tuple")) xNil))))) (sRaise "BadRun" "index" (xCons (xC .non) xNil)) sNx)
    (sSeq (sFor (iEnM (xCons (xVar 0) xNil)) (gT 2 (gCo (gN 1) (gCo (gN 2) gNl))) (sIf (bNot (bTest (xCall L_is_event_form (xCons (xVar 2) xNil)))) (sRaise "BadRun" "index" (xCons (xVar 1) xNil)) sNx))
    (sRet (xJoin (xC (.str "\n")) (xLc (iTp (xVar 0)) (gN 2) bYes (xCall L_row_of_event (xCons (xVar 2) xNil)) [2])))))
abbrev s__law_pot_of : Stmt := (top 35)
abbrev N__law_pot_of : List Str := ["_law_script", "_law_k", "_law_cell", "_law_own"]
abbrev P__law_pot_of : List Str := ["_law_script", "_law_k"]
theorem sc__law_pot_of : FnScope N__law_pot_of P__law_pot_of (defScope s__law_pot_of) := ⟨rfl, rfl, rfl, by decide +kernel, rfl, by decide +kernel, by decide +kernel⟩
def L__law_pot_of : List Dat → M Dat := runD N__law_pot_of.length (sSeq (sAsg (xIf (bTest (xOp dLt (xVar 1) (xCB dLen (xCons (xVar 0) xNil)))) (xOp dIxSc (xVar 0) (xVar 1)) (xOp dAdd (xOp dMul (xC (.int 53)) (xVar 1)) (xC (.int 31)))) (gN 2))
    (sSeq (sAsg (xOp dMul (xOp dMod (xCB dInt (xCons (xCB dAbs (xCons (xVar 2) xNil)) xNil)) (xOp dPowZ (xOp dPow (xC (.int 10)) (xC (.int 60))) (xC (.int 5)))) (xCB dInt (xCons (xOp dGe (xCB dAbs (xCons (xVar 2) xNil)) (xOp dPow (xC (.int 10)) (xC (.int 18)))) xNil))) (gN 3))
    (sRetLo (xLst (xCons (xVar 3) (xCons (xOp dMod (xCB dInt (xCons (xOp dAdd (xOp dAdd (xOp dMul (xOp dMod (xCB dInt (xCons (xVar 2) xNil)) (xC (.int 2305843009213693951))) (xC (.int 70981))) (xOp dMul (xOp dMul (xC (.int 5413)) (xVar 1)) (xVar 1))) (xC (.int 37))) xNil)) (xC (.int 2305843009213693921))) (xCons (xC (.int 0)) xNil)))))))
abbrev s__law_take : Stmt := (top 36)
abbrev N__law_take : List Str := ["_law_pot", "_law_upto", "_law_digit", "_law_prime", "_law_stirred"]
abbrev P__law_take : List Str := ["_law_pot", "_law_upto"]
theorem sc__law_take : FnScope N__law_take P__law_take (defScope s__law_take) := ⟨rfl, rfl, rfl, by decide +kernel, rfl, by decide +kernel, by decide +kernel⟩
def L__law_take : List Dat → M Dat := runD N__law_take.length (sSeq (sIf (bTest (xOp dGt (xOp dIxLo (xVar 0) (xC (.int 0))) (xC (.int 0)))) (sSeq (sAsg (xOp dMod (xCB dInt (xCons (xOp dIxLo (xVar 0) (xC (.int 0))) xNil)) (xVar 1)) (gN 2))
    (sSeq (sSetLo 0 (xC (.int 0)) (xOp dDiv (xOp dIxLo (xVar 0) (xC (.int 0))) (xVar 1)))
    (sRet (xVar 2)))) sNx)
    (sSeq (sSetLo 0 (xC (.int 2)) (xOp dAdd (xOp dIxLo (xVar 0) (xC (.int 2))) (xC (.int 1))))
    (sSeq (sAsg (xOp dIxL (xLst (xCons (xC (.int 2147483647)) (xCons (xC (.int 2147483629)) (xCons (xC (.int 2147483587)) (xCons (xC (.int 2147483579)) (xCons (xC (.int 2147483563)) xNil)))))) (xOp dMod (xCB dInt (xCons (xOp dIxLo (xVar 0) (xC (.int 2))) xNil)) (xC (.int 5)))) (gN 3))
    (sSeq (sAsg (xOp dMod (xCB dInt (xCons (xOp dPow (xOp dAdd (xOp dAdd (xOp dIxLo (xVar 0) (xC (.int 1))) (xOp dMul (xOp dMul (xC (.int 90001)) (xOp dIxLo (xVar 0) (xC (.int 2)))) (xOp dIxLo (xVar 0) (xC (.int 2))))) (xC (.int 43))) (xC (.int 3))) xNil)) (xVar 3)) (gN 4))
    (sRet (xOp dMod (xCB dInt (xCons (xOp dDiv (xOp dMul (xVar 4) (xOp dAdd (xOp dMod (xCB dInt (xCons (xVar 4) xNil)) (xC (.int 10007))) (xOp dMul (xC (.int 73)) (xOp dIxLo (xVar 0) (xC (.int 2)))))) (xC (.int 97))) xNil)) (xVar 1)))))))
abbrev s__law_of : Stmt := (top 37)
abbrev N__law_of : List Str := ["_law_pot", "_law_some"]
abbrev P__law_of : List Str := ["_law_pot", "_law_some"]
theorem sc__law_of : FnScope N__law_of P__law_of (defScope s__law_of) := ⟨rfl, rfl, rfl, by decide +kernel, rfl, by decide +kernel, by decide +kernel⟩
def L__law_of : List Dat → M Dat := runD N__law_of.length (sRet (xOp dIxL (xVar 1) (xCall L__law_take (xCons (xVar 0) (xCons (xCB dLen (xCons (xVar 1) xNil)) xNil)))))
abbrev s__law_name : Stmt := (top 38)
abbrev N__law_name : List Str := ["_law_pot", "_law_some"]
abbrev P__law_name : List Str := ["_law_pot"]
theorem sc__law_name : FnScope N__law_name P__law_name (defScope s__law_name) := ⟨rfl, rfl, rfl, by decide +kernel, rfl, by decide +kernel, by decide +kernel⟩
def L__law_name : List Dat → M Dat := runD N__law_name.length (sSeq (sAsg (xLst (xCons (xC (.str "a")) (xCons (xC (.str "id")) (xCons (xC (.str "back")) (xCons (xC (.str "no")) (xCons (xC (.str "up")) (xCons (xC (.str "fill")) (xCons (xC (.str "empty")) (xCons (xC (.str "anew")) (xCons (xC (.str "narrow")) (xCons (xC (.str "cut")) (xCons (xC (.str "grow")) (xCons (xC (.str "zzzzzzzz")) (xCons (xC (.str "down")) xNil)))))))))))))) (gN 1))
    (sRet (xCall L__law_of (xCons (xVar 0) (xCons (xVar 1) xNil)))))
abbrev s__law_step : Stmt := (top 39)
abbrev N__law_step : List Str := ["_law_pot", "_law_name_here", "_law_rule", "_law_manner", "_law_number", "_law_some"]
abbrev P__law_step : List Str := ["_law_pot"]
theorem sc__law_step : FnScope N__law_step P__law_step (defScope s__law_step) := ⟨rfl, rfl, rfl, by decide +kernel, rfl, by decide +kernel, by decide +kernel⟩
def L__law_step : List Dat → M Dat := runD N__law_step.length (sSeq (sPar3 1 2 3 (xCons (xCall L__law_name (xCons (xVar 0) xNil)) (xCons (xCall L__law_of (xCons (xVar 0) (xCons (xLst (xCons (xC (.str "cut")) (xCons (xC (.str "empty")) (xCons (xC (.str "refuse")) xNil)))) xNil))) (xCons (xCall L__law_of (xCons (xVar 0) (xCons (xLst (xCons (xC (.str "anew")) (xCons (xC (.str "empty")) xNil))) xNil))) xNil))))
    (sSeq (sAsg (xOp dSub (xOp dAdd (xCall L__law_of (xCons (xVar 0) (xCons (xLst (xCons (xC (.int 0)) (xCons (xC (.int 1)) (xCons (xUn dNeg (xC (.int 1))) (xCons (xC (.int 7)) (xCons (xC (.int 255)) (xCons (xOp dPow (xC (.int 10)) (xC (.int 9))) (xCons (xUn dNeg (xOp dPow (xC (.int 10)) (xC (.int 17)))) (xCons (xOp dSub (xOp dPow (xC (.int 10)) (xC (.int 18))) (xC (.int 1))) xNil))))))))) xNil))) (xCall L__law_take (xCons (xVar 0) (xCons (xC (.int 2)) xNil)))) (xC (.int 1))) (gN 4))
    (sSeq (sAsg (xLst (xCons (xTup (xCons (xC (.str "add")) (xCons (xVar 1) xNil))) (xCons (xTup (xCons (xC (.str "drop")) (xCons (xVar 1) (xCons (xCall L__law_of (xCons (xVar 0) (xCons (xLst (xCons (xC (.str "narrow")) (xCons (xC (.str "wide")) xNil))) xNil))) xNil)))) (xCons (xTup (xCons (xC (.str "up")) (xCons (xVar 1) xNil))) (xCons (xTup (xCons (xC (.str "no up")) (xCons (xVar 1) xNil))) xNil))))) (gN 5))
    (sSeq (sAsg (xOp dCatL (xVar 5) (xLst (xCons (xTup (xCons (xC (.str "down")) (xCons (xVar 1) (xCons (xVar 2) xNil)))) (xCons (xTup (xCons (xC (.str "no down")) (xCons (xVar 1) xNil))) (xCons (xTup (xCons (xC (.str "fill")) (xCons (xVar 1) (xCons (xVar 3) xNil)))) (xCons (xTup (xCons (xC (.str "release")) (xCons (xVar 1) xNil))) xNil)))))) (gN 5))
    (sSeq (sAsg (xOp dCatL (xVar 5) (xLst (xCons (xTup (xCons (xC (.str "fill back")) (xCons (xVar 1) (xCons (xVar 3) (xCons (xVar 2) xNil))))) (xCons (xTup (xCons (xC (.str "withdraw")) (xCons (xVar 1) xNil))) (xCons (xTup (xCons (xC (.str "grow")) (xCons (xVar 4) xNil))) (xCons (xTup (xCons (xC (.str "purge")) (xCons (xVar 4) xNil))) xNil)))))) (gN 5))
    (sRet (xCall L__law_of (xCons (xVar 0) (xCons (xVar 5) xNil)))))))))
abbrev s__law_event : Stmt := (top 40)
abbrev N__law_event : List Str := ["_law_pot", "_law_name_here", "_law_other", "_law_number", "_law_row", "_law_second", "_law_edition", "_law_some"]
abbrev P__law_event : List Str := ["_law_pot"]
theorem sc__law_event : FnScope N__law_event P__law_event (defScope s__law_event) := ⟨rfl, rfl, rfl, by decide +kernel, rfl, by decide +kernel, by decide +kernel⟩
def L__law_event : List Dat → M Dat := runD N__law_event.length (sSeq (sPar3 1 2 3 (xCons (xCall L__law_name (xCons (xVar 0) xNil)) (xCons (xCall L__law_name (xCons (xVar 0) xNil)) (xCons (xCall L__law_of (xCons (xVar 0) (xCons (xLst (xCons (xC (.int 0)) (xCons (xC (.int 1)) (xCons (xC (.int 7)) (xCons (xC (.int 300)) (xCons (xUn dNeg (xC (.int 5))) (xCons (xOp dPow (xC (.int 10)) (xC (.int 17))) xNil))))))) xNil))) xNil))))
    (sSeq (sPar3 4 5 6 (xCons (xCall L__law_of (xCons (xVar 0) (xCons (xLst (xCons (xC (.int 0)) (xCons (xC (.int 1)) (xCons (xC (.int 2)) (xCons (xC (.int 999999999)) xNil))))) xNil))) (xCons (xCall L__law_of (xCons (xVar 0) (xCons (xLst (xCons (xC (.int 0)) (xCons (xC (.int 1)) (xCons (xC (.int 3)) xNil)))) xNil))) (xCons (xCall L__law_of (xCons (xVar 0) (xCons (xLst (xCons (xC (.int 0)) (xCons (xC (.int 1)) (xCons (xC (.int 2)) (xCons (xC (.int 9)) xNil))))) xNil))) xNil))))
    (sSeq (sAsg (xLst (xCons (xTup (xCons (xC (.str "there")) (xCons (xVar 1) (xCons (xVar 4) (xCons (xVar 3) xNil))))) (xCons (xTup (xCons (xC (.str "begin")) (xCons (xCall L__law_step (xCons (xVar 0) xNil)) xNil))) (xCons (xTup (xCons (xC (.str "end")) (xCons (xCall L__law_step (xCons (xVar 0) xNil)) xNil))) (xCons (xTup (xCons (xC (.str "visit")) (xCons (xVar 4) xNil))) xNil))))) (gN 7))
    (sSeq (sAsg (xOp dCatL (xVar 7) (xLst (xCons (xTup (xCons (xC (.str "set")) (xCons (xVar 2) (xCons (xVar 6) (xCons (xVar 1) (xCons (xVar 4) (xCons (xVar 3) xNil))))))) (xCons (xTup (xCons (xC (.str "copy")) (xCons (xVar 2) (xCons (xVar 6) (xCons (xVar 1) (xCons (xVar 4) (xCons (xVar 5) xNil))))))) xNil)))) (gN 7))
    (sSeq (sAsg (xOp dCatL (xVar 7) (xLst (xCons (xTup (xCons (xC (.str "come")) (xCons (xVar 2) (xCons (xVar 6) (xCons (xVar 1) (xCons (xVar 4) (xCons (xVar 3) xNil))))))) (xCons (xTup (xCons (xC (.str "read")) (xCons (xVar 2) (xCons (xVar 6) (xCons (xVar 1) (xCons (xVar 4) xNil)))))) xNil)))) (gN 7))
    (sSeq (sAsg (xOp dCatL (xVar 7) (xLst (xCons (xTup (xCons (xC (.str "match")) (xCons (xVar 2) (xCons (xVar 6) (xCons (xVar 1) (xCons (xVar 4) (xCons (xC (.str "ref")) (xCons (xOp dAdd (xVar 4) (xC (.int 1))) xNil)))))))) (xCons (xTup (xCons (xC (.str "order")) (xCons (xVar 2) (xCons (xVar 6) (xCons (xVar 1) (xCons (xC (.int 5)) (xCons (xVar 5) xNil))))))) xNil)))) (gN 7))
    (sRet (xCall L__law_of (xCons (xVar 0) (xCons (xVar 7) xNil))))))))))
abbrev s__law_is_name : Stmt := (top 41)
abbrev N__law_is_name : List Str := ["_law_value", "_law_sign"]
abbrev P__law_is_name : List Str := ["_law_value"]
theorem sc__law_is_name : FnScope N__law_is_name P__law_is_name (defScope s__law_is_name) := ⟨rfl, rfl, rfl, by decide +kernel, rfl, by decide +kernel, by decide +kernel⟩
def L__law_is_name : List Dat → M Dat := runD N__law_is_name.length (sSeq (sIf (bOr (bNot (bTest (xCB dIsi (xCons (xVar 0) (xCons (xC (.ty "str")) xNil))))) (bNot (bTest (xChain dLe dLe (xC (.int 1)) (xCB dLenS (xCons (xVar 0) xNil)) (xC (.int 8)))))) (sRet (xC (.bl false))) sNx)
    (sRet (xCB dAll (xCons (xLc (iStrM (xVar 0)) (gN 1) bYes (xOp (dInT false) (xVar 1) (xC (.str "abcdefghijklmnopqrstuvwxyz"))) [1]) xNil))))
abbrev s__law_is_number : Stmt := (top 42)
abbrev N__law_is_number : List Str := ["_law_value"]
abbrev P__law_is_number : List Str := ["_law_value"]
theorem sc__law_is_number : FnScope N__law_is_number P__law_is_number (defScope s__law_is_number) := ⟨rfl, rfl, rfl, by decide +kernel, rfl, by decide +kernel, by decide +kernel⟩
def L__law_is_number : List Dat → M Dat := runD N__law_is_number.length (sRet (xAnd (xCB dIsi (xCons (xVar 0) (xCons (xC (.ty "int")) xNil))) (xNot (xCB dIsi (xCons (xVar 0) (xCons (xC (.ty "bool")) xNil))))))
abbrev s__law_fits : Stmt := (top 43)
abbrev N__law_fits : List Str := ["_law_sort", "_law_value", "_law_some"]
abbrev P__law_fits : List Str := ["_law_sort", "_law_value"]
theorem sc__law_fits : FnScope N__law_fits P__law_fits (defScope s__law_fits) := ⟨rfl, rfl, rfl, by decide +kernel, rfl, by decide +kernel, by decide +kernel⟩
def L__law_fits0 : List Dat → M Dat := runD N__law_fits.length (sSeq (sIf (bTest (xOp dEq (xVar 0) (xC (.str "n")))) (sRet (xCall L__law_is_name (xCons (xVar 1) xNil))) sNx)
    (sSeq (sIf (bTest (xOp dEq (xVar 0) (xC (.str "i")))) (sRet (xCall L__law_is_number (xCons (xVar 1) xNil))) sNx)
    (sSeq (sIf (bTest (xOp dEq (xVar 0) (xC (.str "w")))) (sRet (xAnd (xCall L__law_is_number (xCons (xVar 1) xNil)) (xChain dLe dLe (xC (.int 0)) (xVar 1) (xC (.int 999999999))))) sNx)
    (sSeq (sIf (bTest (xOp dEq (xVar 0) (xC (.str "t")))) (sRet (xCall LB (xCons (xVar 1) xNil))) sNx)
    (sSeq (sAsg (xDGet (xDisp [((xC (.str "s")), (xTup (xCons (xC (.str "narrow")) (xCons (xC (.str "wide")) xNil)))), ((xC (.str "r")), (xTup (xCons (xC (.str "cut")) (xCons (xC (.str "empty")) (xCons (xC (.str "refuse")) xNil))))), ((xC (.str "m")), (xTup (xCons (xC (.str "anew")) (xCons (xC (.str "empty")) xNil))))]) (xVar 0)) (gN 2))
    (sRet (xAnd (xCB dIsi (xCons (xVar 1) (xCons (xC (.ty "str")) xNil))) (xOp (dIn false) (xVar 1) (xVar 2)))))))))
abbrev s__law_has_form : Stmt := (top 44)
abbrev N__law_has_form : List Str := ["_law_sorts", "_law_value", "_law_sort", "_law_part"]
abbrev P__law_has_form : List Str := ["_law_sorts", "_law_value"]
theorem sc__law_has_form : FnScope N__law_has_form P__law_has_form (defScope s__law_has_form) := ⟨rfl, rfl, rfl, by decide +kernel, rfl, by decide +kernel, by decide +kernel⟩
def L__law_has_form0 : List Dat → M Dat := runD N__law_has_form.length (sSeq (sIf (bOr (bNot (bTest (xCB dIsi (xCons (xVar 1) (xCons (xC (.ty "tuple")) xNil))))) (bOr (bTest (xOp dEqT (xVar 1) (xTup xNil))) (bOr (bNot (bTest (xCB dIsi (xCons (xOp dIxT (xVar 1) (xC (.int 0))) (xCons (xC (.ty "str")) xNil))))) (bTest (xDIn true (xOp dIxT (xVar 1) (xC (.int 0))) (xVar 0)))))) (sRet (xC (.bl false))) sNx)
    (sSeq (sIf (bTest (xOp dNe (xCB dLen (xCons (xVar 1) xNil)) (xOp dAdd (xCB dLenS (xCons (xDGet (xVar 0) (xOp dIxT (xVar 1) (xC (.int 0)))) xNil)) (xC (.int 1))))) (sRet (xC (.bl false))) sNx)
    (sRet (xCB dAll (xCons (xLc (iZipM (xCons (xDGet (xVar 0) (xOp dIxT (xVar 1) (xC (.int 0)))) (xCons (jSl dCutT (xVar 1) (oSome (xC (.int 1))) oNone) xNil))) (gT 2 (gCo (gN 2) (gCo (gN 3) gNl))) bYes (xCall L__law_fits0 (xCons (xVar 2) (xCons (xVar 3) xNil))) [2, 3]) xNil)))))
abbrev s__law_is_step : Stmt := (top 45)
abbrev N__law_is_step : List Str := ["_law_value", "_law_sorts"]
abbrev P__law_is_step : List Str := ["_law_value"]
theorem sc__law_is_step : FnScope N__law_is_step P__law_is_step (defScope s__law_is_step) := ⟨rfl, rfl, rfl, by decide +kernel, rfl, by decide +kernel, by decide +kernel⟩
def L__law_is_step0 : List Dat → M Dat := runD N__law_is_step.length (sSeq (sDUpd 1 (xDisp [((xC (.str "add")), (xC (.str "n"))), ((xC (.str "drop")), (xC (.str "ns"))), ((xC (.str "up")), (xC (.str "n"))), ((xC (.str "no up")), (xC (.str "n"))), ((xC (.str "down")), (xC (.str "nr"))), ((xC (.str "no down")), (xC (.str "n"))), ((xC (.str "fill")), (xC (.str "nm")))]) (xDisp [((xC (.str "fill back")), (xC (.str "nmr"))), ((xC (.str "release")), (xC (.str "n"))), ((xC (.str "withdraw")), (xC (.str "n"))), ((xC (.str "grow")), (xC (.str "i"))), ((xC (.str "purge")), (xC (.str "i")))]))
    (sRet (xCall L__law_has_form0 (xCons (xVar 1) (xCons (xVar 0) xNil)))))
def L__law_fits1 : List Dat → M Dat := runD N__law_fits.length (sSeq (sIf (bTest (xOp dEq (xVar 0) (xC (.str "n")))) (sRet (xCall L__law_is_name (xCons (xVar 1) xNil))) sNx)
    (sSeq (sIf (bTest (xOp dEq (xVar 0) (xC (.str "i")))) (sRet (xCall L__law_is_number (xCons (xVar 1) xNil))) sNx)
    (sSeq (sIf (bTest (xOp dEq (xVar 0) (xC (.str "w")))) (sRet (xAnd (xCall L__law_is_number (xCons (xVar 1) xNil)) (xChain dLe dLe (xC (.int 0)) (xVar 1) (xC (.int 999999999))))) sNx)
    (sSeq (sIf (bTest (xOp dEq (xVar 0) (xC (.str "t")))) (sRet (xCall L__law_is_step0 (xCons (xVar 1) xNil))) sNx)
    (sSeq (sAsg (xDGet (xDisp [((xC (.str "s")), (xTup (xCons (xC (.str "narrow")) (xCons (xC (.str "wide")) xNil)))), ((xC (.str "r")), (xTup (xCons (xC (.str "cut")) (xCons (xC (.str "empty")) (xCons (xC (.str "refuse")) xNil))))), ((xC (.str "m")), (xTup (xCons (xC (.str "anew")) (xCons (xC (.str "empty")) xNil))))]) (xVar 0)) (gN 2))
    (sRet (xAnd (xCB dIsi (xCons (xVar 1) (xCons (xC (.ty "str")) xNil))) (xOp (dIn false) (xVar 1) (xVar 2)))))))))
def L__law_has_form1 : List Dat → M Dat := runD N__law_has_form.length (sSeq (sIf (bOr (bNot (bTest (xCB dIsi (xCons (xVar 1) (xCons (xC (.ty "tuple")) xNil))))) (bOr (bTest (xOp dEqT (xVar 1) (xTup xNil))) (bOr (bNot (bTest (xCB dIsi (xCons (xOp dIxT (xVar 1) (xC (.int 0))) (xCons (xC (.ty "str")) xNil))))) (bTest (xDIn true (xOp dIxT (xVar 1) (xC (.int 0))) (xVar 0)))))) (sRet (xC (.bl false))) sNx)
    (sSeq (sIf (bTest (xOp dNe (xCB dLen (xCons (xVar 1) xNil)) (xOp dAdd (xCB dLenS (xCons (xDGet (xVar 0) (xOp dIxT (xVar 1) (xC (.int 0)))) xNil)) (xC (.int 1))))) (sRet (xC (.bl false))) sNx)
    (sRet (xCB dAll (xCons (xLc (iZipM (xCons (xDGet (xVar 0) (xOp dIxT (xVar 1) (xC (.int 0)))) (xCons (jSl dCutT (xVar 1) (oSome (xC (.int 1))) oNone) xNil))) (gT 2 (gCo (gN 2) (gCo (gN 3) gNl))) bYes (xCall L__law_fits1 (xCons (xVar 2) (xCons (xVar 3) xNil))) [2, 3]) xNil)))))
abbrev s__law_is_event : Stmt := (top 46)
abbrev N__law_is_event : List Str := ["_law_value", "_law_sorts"]
abbrev P__law_is_event : List Str := ["_law_value"]
theorem sc__law_is_event : FnScope N__law_is_event P__law_is_event (defScope s__law_is_event) := ⟨rfl, rfl, rfl, by decide +kernel, rfl, by decide +kernel, by decide +kernel⟩
def L__law_is_event : List Dat → M Dat := runD N__law_is_event.length (sSeq (sDUpd 1 (xDisp [((xC (.str "there")), (xC (.str "nwi"))), ((xC (.str "begin")), (xC (.str "t"))), ((xC (.str "end")), (xC (.str "t"))), ((xC (.str "set")), (xC (.str "nwnwi"))), ((xC (.str "copy")), (xC (.str "nwnww"))), ((xC (.str "come")), (xC (.str "nwnwi"))), ((xC (.str "visit")), (xC (.str "w")))]) (xDisp [((xC (.str "read")), (xC (.str "nwnw"))), ((xC (.str "match")), (xC (.str "nwnwnw"))), ((xC (.str "order")), (xC (.str "nwnww")))]))
    (sRet (xCall L__law_has_form1 (xCons (xVar 1) (xCons (xVar 0) xNil)))))
abbrev s__law_odd : Stmt := (top 47)
abbrev N__law_odd : List Str := ["_law_pot", "_law_thing", "_law_some"]
abbrev P__law_odd : List Str := ["_law_pot", "_law_thing"]
theorem sc__law_odd : FnScope N__law_odd P__law_odd (defScope s__law_odd) := ⟨rfl, rfl, rfl, by decide +kernel, rfl, by decide +kernel, by decide +kernel⟩
def L__law_odd : List Dat → M Dat := runD N__law_odd.length (sSeq (sAsg (xLst (xCons (xC .non) (xCons (xC (.bl true)) (xCons (xC (.bl false)) (xCons (xC (.int 0)) (xCons (xUn dNeg (xC (.int 1))) (xCons (xC (.str "")) (xCons (xC (.str "id")) (xCons (xC (.str "cut")) (xCons (xC (.str "narrow")) (xCons (xC (.str "empty")) (xCons (xC (.str "Id")) (xCons (xC (.str "abcdefghi")) (xCons (xTup xNil) (xCons (xLst xNil) (xCons xDic0 (xCons (xOp dPow (xC (.int 10)) (xC (.int 9))) (xCons (xC (.int 7)) xNil)))))))))))))))))) (gN 2))
    (sSeq (sIf (bTest (xCB dIsi (xCons (xVar 1) (xCons (xC (.ty "tuple")) xNil)))) (sAsg (xOp dCatL (xVar 2) (xOp dRepL (xLst (xCons (xCB dList (xCons (xVar 1) xNil)) (xCons (jSl dCutT (xVar 1) (oSome (xC (.int 1))) oNone) (xCons (jSl dCutT (xVar 1) oNone (oSome (xUn dNeg (xC (.int 1))))) (xCons (xOp dCatT (xVar 1) (jSl dCutT (xVar 1) oNone (oSome (xC (.int 1))))) (xCons (xTup (xCons (xVar 1) xNil)) xNil)))))) (xC (.int 2)))) (gN 2)) sNx)
    (sRet (xCall L__law_of (xCons (xVar 0) (xCons (xVar 2) xNil))))))
abbrev s__law_bent : Stmt := (top 48)
abbrev N__law_bent : List Str := ["_law_pot", "_law_thing", "_law_deep", "_law_at"]
abbrev P__law_bent : List Str := ["_law_pot", "_law_thing", "_law_deep"]
theorem sc__law_bent : FnScope N__law_bent P__law_bent (defScope s__law_bent) := ⟨rfl, rfl, rfl, by decide +kernel, rfl, by decide +kernel, by decide +kernel⟩
def L__law_bent0 : List Dat → M Dat := runD N__law_bent.length (sSeq (sIf (bOr (bTest (xOp dEq (xVar 2) (xC (.int 0)))) (bOr (bNot (bTest (xCB dIsi (xCons (xVar 1) (xCons (xC (.ty "tuple")) xNil))))) (bOr (bTest (xOp dEqT (xVar 1) (xTup xNil))) (bTest (xOp dEq (xCall L__law_take (xCons (xVar 0) (xCons (xC (.int 6)) xNil))) (xC (.int 0))))))) (sRet (xCall L__law_odd (xCons (xVar 0) (xCons (xVar 1) xNil)))) sNx)
    (sSeq (sAsg (xCall L__law_take (xCons (xVar 0) (xCons (xCB dLen (xCons (xVar 1) xNil)) xNil))) (gN 3))
    (sRet (xOp dCatT (xOp dCatT (jSl dCutT (xVar 1) oNone (oSome (xVar 3))) (xTup (xCons (xCall LB (xCons (xVar 0) (xCons (xOp dIxT (xVar 1) (xVar 3)) (xCons (xOp dSub (xVar 2) (xC (.int 1))) xNil)))) xNil))) (jSl dCutT (xVar 1) (oSome (xOp dAdd (xVar 3) (xC (.int 1)))) oNone)))))
def L__law_bent1 : List Dat → M Dat := runD N__law_bent.length (sSeq (sIf (bOr (bTest (xOp dEq (xVar 2) (xC (.int 0)))) (bOr (bNot (bTest (xCB dIsi (xCons (xVar 1) (xCons (xC (.ty "tuple")) xNil))))) (bOr (bTest (xOp dEqT (xVar 1) (xTup xNil))) (bTest (xOp dEq (xCall L__law_take (xCons (xVar 0) (xCons (xC (.int 6)) xNil))) (xC (.int 0))))))) (sRet (xCall L__law_odd (xCons (xVar 0) (xCons (xVar 1) xNil)))) sNx)
    (sSeq (sAsg (xCall L__law_take (xCons (xVar 0) (xCons (xCB dLen (xCons (xVar 1) xNil)) xNil))) (gN 3))
    (sRet (xOp dCatT (xOp dCatT (jSl dCutT (xVar 1) oNone (oSome (xVar 3))) (xTup (xCons (xCall L__law_bent0 (xCons (xVar 0) (xCons (xOp dIxT (xVar 1) (xVar 3)) (xCons (xOp dSub (xVar 2) (xC (.int 1))) xNil)))) xNil))) (jSl dCutT (xVar 1) (oSome (xOp dAdd (xVar 3) (xC (.int 1)))) oNone)))))
def L__law_bent2 : List Dat → M Dat := runD N__law_bent.length (sSeq (sIf (bOr (bTest (xOp dEq (xVar 2) (xC (.int 0)))) (bOr (bNot (bTest (xCB dIsi (xCons (xVar 1) (xCons (xC (.ty "tuple")) xNil))))) (bOr (bTest (xOp dEqT (xVar 1) (xTup xNil))) (bTest (xOp dEq (xCall L__law_take (xCons (xVar 0) (xCons (xC (.int 6)) xNil))) (xC (.int 0))))))) (sRet (xCall L__law_odd (xCons (xVar 0) (xCons (xVar 1) xNil)))) sNx)
    (sSeq (sAsg (xCall L__law_take (xCons (xVar 0) (xCons (xCB dLen (xCons (xVar 1) xNil)) xNil))) (gN 3))
    (sRet (xOp dCatT (xOp dCatT (jSl dCutT (xVar 1) oNone (oSome (xVar 3))) (xTup (xCons (xCall L__law_bent1 (xCons (xVar 0) (xCons (xOp dIxT (xVar 1) (xVar 3)) (xCons (xOp dSub (xVar 2) (xC (.int 1))) xNil)))) xNil))) (jSl dCutT (xVar 1) (oSome (xOp dAdd (xVar 3) (xC (.int 1)))) oNone)))))
def L__law_bent3 : List Dat → M Dat := runD N__law_bent.length (sSeq (sIf (bOr (bTest (xOp dEq (xVar 2) (xC (.int 0)))) (bOr (bNot (bTest (xCB dIsi (xCons (xVar 1) (xCons (xC (.ty "tuple")) xNil))))) (bOr (bTest (xOp dEqT (xVar 1) (xTup xNil))) (bTest (xOp dEq (xCall L__law_take (xCons (xVar 0) (xCons (xC (.int 6)) xNil))) (xC (.int 0))))))) (sRet (xCall L__law_odd (xCons (xVar 0) (xCons (xVar 1) xNil)))) sNx)
    (sSeq (sAsg (xCall L__law_take (xCons (xVar 0) (xCons (xCB dLen (xCons (xVar 1) xNil)) xNil))) (gN 3))
    (sRet (xOp dCatT (xOp dCatT (jSl dCutT (xVar 1) oNone (oSome (xVar 3))) (xTup (xCons (xCall L__law_bent2 (xCons (xVar 0) (xCons (xOp dIxT (xVar 1) (xVar 3)) (xCons (xOp dSub (xVar 2) (xC (.int 1))) xNil)))) xNil))) (jSl dCutT (xVar 1) (oSome (xOp dAdd (xVar 3) (xC (.int 1)))) oNone)))))
def L__law_bent4 : List Dat → M Dat := runD N__law_bent.length (sSeq (sIf (bOr (bTest (xOp dEq (xVar 2) (xC (.int 0)))) (bOr (bNot (bTest (xCB dIsi (xCons (xVar 1) (xCons (xC (.ty "tuple")) xNil))))) (bOr (bTest (xOp dEqT (xVar 1) (xTup xNil))) (bTest (xOp dEq (xCall L__law_take (xCons (xVar 0) (xCons (xC (.int 6)) xNil))) (xC (.int 0))))))) (sRet (xCall L__law_odd (xCons (xVar 0) (xCons (xVar 1) xNil)))) sNx)
    (sSeq (sAsg (xCall L__law_take (xCons (xVar 0) (xCons (xCB dLen (xCons (xVar 1) xNil)) xNil))) (gN 3))
    (sRet (xOp dCatT (xOp dCatT (jSl dCutT (xVar 1) oNone (oSome (xVar 3))) (xTup (xCons (xCall L__law_bent3 (xCons (xVar 0) (xCons (xOp dIxT (xVar 1) (xVar 3)) (xCons (xOp dSub (xVar 2) (xC (.int 1))) xNil)))) xNil))) (jSl dCutT (xVar 1) (oSome (xOp dAdd (xVar 3) (xC (.int 1)))) oNone)))))
abbrev s__law_is_cell_twice : Stmt := (top 49)
abbrev N__law_is_cell_twice : List Str := ["_law_value"]
abbrev P__law_is_cell_twice : List Str := ["_law_value"]
theorem sc__law_is_cell_twice : FnScope N__law_is_cell_twice P__law_is_cell_twice (defScope s__law_is_cell_twice) := ⟨rfl, rfl, rfl, by decide +kernel, rfl, by decide +kernel, by decide +kernel⟩
def L__law_is_cell_twice : List Dat → M Dat := runD N__law_is_cell_twice.length (sSeq (sIf (bOr (bNot (bTest (xCB dIsi (xCons (xVar 0) (xCons (xC (.ty "tuple")) xNil))))) (bTest (xOp (dIn true) (xCB dLen (xCons (xVar 0) xNil)) (xTup (xCons (xC (.int 6)) (xCons (xC (.int 7)) xNil)))))) (sRet (xC (.bl false))) sNx)
    (sRet (xOr (xAnd (xOp dEqT (jSl dCutT (xVar 0) oNone (oSome (xC (.int 1)))) (xTup (xCons (xC (.str "match")) xNil))) (xOp dEqT (jSl dCutT (xVar 0) (oSome (xC (.int 3))) (oSome (xC (.int 5)))) (jSl dCutT (xVar 0) (oSome (xC (.int 5))) oNone))) (xAnd (xOp dEqT (jSl dCutT (xVar 0) oNone (oSome (xC (.int 1)))) (xTup (xCons (xC (.str "order")) xNil))) (xOp dEqT (jSl dCutT (xVar 0) (oSome (xC (.int 4))) (oSome (xC (.int 5)))) (jSl dCutT (xVar 0) (oSome (xC (.int 5))) oNone))))))
abbrev s__law_heard : Stmt := (top 50)
abbrev N__law_heard : List Str := ["_law_is_plan", "_law_value", "_law_caught", "_law_told", "error", "_law_is_fine"]
abbrev P__law_heard : List Str := ["_law_is_plan", "_law_value"]
theorem sc__law_heard : FnScope N__law_heard P__law_heard (defScope s__law_heard) := ⟨rfl, rfl, rfl, by decide +kernel, rfl, by decide +kernel, by decide +kernel⟩
def isStrD : Dat → Bool
  | .str _ => true
  | _ => false
def erH (c : String) (fs : List Dat) (b : Bool) : Option Dat := match fs with
  | [.obj _ ns [x]] => if decide (c = if b then "BadPlan" else "BadRun") && decide (ns = [("index" : Str)]) then some x else none
  | _ => none
theorem erH_is {c : String} {fs : List Dat} {b : Bool} {x : Dat} (h : erH c fs b = some x) : (c = if b then "BadPlan" else "BadRun") ∧ ∃ c', fs = [.obj c' ["index"] [x]] := by
  unfold erH at h
  split at h
  · rename_i c' ns y
    by_cases z : (decide (c = if b then "BadPlan" else "BadRun") && decide (ns = [("index" : Str)])) = true
    · rw [if_pos z] at h
      cases h
      rw [Bool.and_eq_true, decide_eq_true_eq, decide_eq_true_eq] at z
      exact ⟨z.1, c', by rw [z.2]⟩
    · rw [if_neg z] at h
      cases h
  · cases h
def heardD (o : Out Dat) (b : Bool) : Out Dat := match o with
  | .ok d S => if isStrD d then .ok (.tup [.str "told", .bl true]) S else .bad
  | .er c fs S => match erH c fs b with
    | some x => .ok (.tup [.str "bad", x]) S
    | none => .bad
  | .bad => .bad
def argsH : List Dat → Option (Bool × Dat)
  | [.bl b, v] => some (b, v)
  | _ => none
theorem argsH_is {ds : List Dat} {a : Bool × Dat} (h : argsH ds = some a) : ds = [.bl a.1, a.2] := by
  unfold argsH at h
  split at h
  · cases h; rfl
  · cases h
def L__law_heard (ds : List Dat) : M Dat := M.opt (argsH ds) >>= fun a => fun S => heardD ((if a.1 then L_show_plan [a.2] else L_show_run [a.2]) S) a.1
abbrev s__law_right : Stmt := (top 51)
abbrev N__law_right : List Str := ["_law_pot", "_law_is_plan", "_law_things", "_law_value", "_law_due", "_law_bad", "_law_kept", "_law_turn", "_law_one", "_law_at"]
abbrev P__law_right : List Str := ["_law_pot"]
theorem sc__law_right : FnScope N__law_right P__law_right (defScope s__law_right) := ⟨rfl, rfl, rfl, by decide +kernel, rfl, by decide +kernel, by decide +kernel⟩
def L__law_right : List Dat → M Dat := runD N__law_right.length (sSeq (sAsg (xOp dEq (xCall L__law_take (xCons (xVar 0) (xCons (xC (.int 2)) xNil))) (xC (.int 0))) (gN 1))
    (sSeq (sAsg (xCB dTuple (xCons (xLc (iRg1 (xCons (xOp dAdd (xC (.int 1)) (xCall L__law_take (xCons (xVar 0) (xCons (xC (.int 5)) xNil)))) xNil)) (gN 7) bYes (xIf (bTest (xVar 1)) (xCall L__law_step (xCons (xVar 0) xNil)) (xCall L__law_event (xCons (xVar 0) xNil))) [7]) xNil)) (gN 2))
    (sSeq (sFor (iTp (xTup (xCons (xVar 2) (xCons (xCall L__law_bent4 (xCons (xVar 0) (xCons (xVar 2) (xCons (xOp dAdd (xC (.int 1)) (xCall L__law_take (xCons (xVar 0) (xCons (xC (.int 4)) xNil)))) xNil)))) (xCons (xCall L__law_bent4 (xCons (xVar 0) (xCons (xVar 2) (xCons (xC (.int 2)) xNil)))) xNil))))) (gN 3) (sSeq (sAsg (xTup (xCons (xC (.str "told")) (xCons (xC (.bl true)) xNil))) (gN 4))
    (sSeq (sIf (bTest (xCB dIsi (xCons (xVar 3) (xCons (xC (.ty "tuple")) xNil)))) (sSeq (sIf (bTest (xCB dAny (xCons (xLc (iTp (xVar 3)) (gN 8) bYes (xCall L__law_is_cell_twice (xCons (xVar 8) xNil)) [8]) xNil))) (sRet (xC (.bl true))) sNx)
    (sSeq (sAsg (xLc (iEnM (xCons (xVar 3) xNil)) (gT 2 (gCo (gN 9) (gCo (gN 8) gNl))) (bNot (bIf (bTest (xVar 1)) (bTest (xCall L__law_is_step0 (xCons (xVar 8) xNil))) (bTest (xCall L__law_is_event (xCons (xVar 8) xNil))))) (xVar 9) [9, 8]) (gN 5))
    (sAsg (xIf (bTest (xOp (dEqD true) (xVar 5) (xLst xNil))) (xTup (xCons (xC (.str "bad")) (xCons (xOp dIxL (xVar 5) (xC (.int 0))) xNil))) (xVar 4)) (gN 4)))) (sAsg (xTup (xCons (xC (.str "bad")) (xCons (xC .non) xNil))) (gN 4)))
    (sSeq (sAsg (xCB dRepr2 (xCons (xVar 3) xNil)) (gN 6))
    (sIf (bOr (bTest (xOp dNe (xCB dRepr2 (xCons (xCall L__law_heard (xCons (xVar 1) (xCons (xVar 3) xNil))) xNil)) (xCB dRepr2 (xCons (xVar 4) xNil)))) (bTest (xOp dNe (xCB dRepr2 (xCons (xVar 3) xNil)) (xVar 6)))) (sRet (xC (.bl false))) sNx)))))
    (sRet (xC (.bl true))))))
abbrev s_law : Stmt := (top 52)
abbrev N_law : List Str := ["_law_script", "_law_k", "_law_pot", "_law_turn"]
abbrev P_law : List Str := ["_law_script"]
theorem sc_law : FnScope N_law P_law (defScope s_law) := ⟨rfl, rfl, rfl, by decide +kernel, rfl, by decide +kernel, by decide +kernel⟩
def L_law : List Dat → M Dat := runD N_law.length (sSeq (sFor (iRg1 (xCons (xCB dMax (xCons (xC (.int 1)) (xCons (xCB dMin (xCons (xC (.int 3)) (xCons (xCB dLen (xCons (xVar 0) xNil)) xNil))) xNil))) xNil)) (gN 1) (sSeq (sAsg (xCall L__law_pot_of (xCons (xVar 0) (xCons (xVar 1) xNil))) (gN 2))
    (sIf (bNot (bTest (xCB dAll (xCons (xLc (iRg1 (xCons (xC (.int 10)) xNil)) (gN 3) bYes (xCall L__law_right (xCons (xVar 2) xNil)) [3]) xNil)))) (sRet (xC (.bl false))) sNx)))
    (sRet (xC (.bl true))))
end Zd

namespace Zd
open PySem PySem.Spec PyProof.Rows L2 Zg
section
variable {P : Program} {w : World} {K : PySem.W.Frag} {mg : Str → Option Value} {base : Heap} {κ : String → Addr} {t1 t2 : Tok} {CW C_BadPlan C_BadRun a_SIDES a_RULES a_MANNERS a_NAMES a_COUNTS a_STEP_FORMS a_EVENT_FORMS : Addr}
def CalI (P : Program) (w : World) (K : PySem.W.Frag) (mg : Str → Option Value) (base : Heap) (C : Addr) (x : Str) (ps : List Str) : Prop :=
  ∃ (f : Addr) (fd : FuncData), PySem.W.findIn K (.ref C) "__init__" = some (some (.ref f)) ∧ PySem.W.typeIn K (.ref f) = some (.type "function") ∧ FnOk P w K mg base CX0 1 f fd ps (spIni C x) ∧ Binds K fd ps []
theorem sp_bot {Z : Cz} {n : Nat} {vs : List V} {H : Hp} {Q : VK} {E : XK} (h : spD Z n LB vs H Q E) : False := by
  obtain ⟨_, p, ds, S, _, _, _, q⟩ := h
  exact q
theorem ok_BadPlan {f : Addr} {fd : FuncData} (F : Fun K "__init__" "BadPlan.__init__" s_BadPlan___init__ f fd) (ET : ExT K mg CW C_BadPlan "BadPlan" "index") : FnOk P w K mg base CX0 1 f fd P_BadPlan___init__ (spIni C_BadPlan "index") := by
  refine F.ok sc_BadPlan___init__ (fun vs H Q E h => ?_) (fun cdv A outer s H vs Q E hr h => ?_)
  · obtain ⟨a, v, rfl, _⟩ := h
    rfl
  · obtain ⟨a, v, rfl, e, k⟩ := h
    exact ⟨_, (pss_one (ps_ost (pv 0) (pv 1))), v, rfl, .ref a, rfl, rd_ost ET.ox ET.nf e k⟩
theorem ok_BadRun {f : Addr} {fd : FuncData} (F : Fun K "__init__" "BadRun.__init__" s_BadRun___init__ f fd) (ET : ExT K mg CW C_BadRun "BadRun" "index") : FnOk P w K mg base CX0 1 f fd P_BadRun___init__ (spIni C_BadRun "index") := by
  refine F.ok sc_BadRun___init__ (fun vs H Q E h => ?_) (fun cdv A outer s H vs Q E hr h => ?_)
  · obtain ⟨a, v, rfl, _⟩ := h
    rfl
  · obtain ⟨a, v, rfl, e, k⟩ := h
    exact ⟨_, (pss_one (ps_ost (pv 0) (pv 1))), v, rfl, .ref a, rfl, rd_ost ET.ox ET.nf e k⟩
theorem ok_is_integer {f : Addr} {fd : FuncData} (F : Fun K "is_integer" "is_integer" s_is_integer f fd) (T : TxD mg) : FnOk P w K mg base CX0 1 f fd P_is_integer (spD ⟨K, κ⟩ 1 L_is_integer) := by
  exact F.ok sc_is_integer (fun vs H Q E h => h.1) (fun cdv A outer s H vs Q E hr h => ⟨_, (pss_one (ps_ret (pe_and (pe_callB call_isi (by rfl) T.n_isinstance (by decide +kernel) (pa_cons (pv 0) (pa_cons (pe_bltn (v := .ty "int") (by rfl) T.n_int (by decide +kernel) rfl) pa_nil))) (pe_one (pe_not (pe_callB call_isi (by rfl) T.n_isinstance (by decide +kernel) (pa_cons (pv 0) (pa_cons (pe_bltn (v := .ty "bool") (by rfl) T.n_bool (by decide +kernel) rfl) pa_nil)))))))), ok_body (Z := ⟨K, κ⟩) (O := []) (js_ret (JD.w (j_andV (j_cb c_isi (ja_consW (JD.w (j_var nin)) (ja_cons j_ty ja_nil))) (j_notV (j_cb c_isi (ja_consW (JD.w (j_var nin)) (ja_cons j_ty ja_nil))))))) (fun _ m => absurd m List.not_mem_nil) h⟩)
theorem ok_is_name {f : Addr} {fd : FuncData} (F : Fun K "is_name" "is_name" s_is_name f fd) (T : TxD mg) (TN : TxN mg t1 t2) : FnOk P w K mg base CX0 1 f fd P_is_name (spD ⟨K, κ⟩ 1 L_is_name) := by
  exact F.ok sc_is_name (fun vs H Q E h => h.1) (fun cdv A outer s H vs Q E hr h => ⟨_, (pss_cons (ps_if (PW.pt (pw_or (pt_not (pt_val (pe_callB call_isi (by rfl) T.n_isinstance (by decide +kernel) (pa_cons (pv 0) (pa_cons (pe_bltn (v := .ty "str") (by rfl) T.n_str (by decide +kernel) rfl) pa_nil))))) (pw_or1 (pt_cmpR op_gt (pe_callB call_len_str (by rfl) T.n_len (by decide +kernel) (pa_cons (pv 0) pa_nil)) (pe_glob (v := .int 8) rfl TN.g_MOST_LETTERS ⟨_, rfl⟩) (nomark _))))) (pss_one (ps_ret pe_bl)) pss_nil)
      (pss_one (ps_ret (pe_and (pe_m0 PySem.F.slot_str_isascii PySem.F.type_str_isascii mt_isascii (pv 0)) (pe_and (pe_m0 PySem.F.slot_str_isalpha PySem.F.type_str_isalpha mt_isalpha (pv 0)) (pe_one (pe_m0 PySem.F.slot_str_islower PySem.F.type_str_islower mt_islower (pv 0)))))))), ok_body (Z := ⟨K, κ⟩) (O := []) (js_seq (js_if (jb_or (jb_not (jb_B (j_cb c_isi (ja_consW (JD.w (j_var nin)) (ja_cons j_ty ja_nil))))) (jb_test (j_op upD r_gt (j_cb c_lenS (ja_cons (j_var nin) ja_nil)) j_int))) (js_ret (JD.w j_bl)) js_next)
      (js_ret (JD.w (j_andV (j_m0 (fun _ _ _ h => m0_isascii h) (j_var nin)) (j_andV (j_m0 (fun _ _ _ h => m0_isalpha h) (j_var nin)) (j_m0 (fun _ _ _ h => m0_islower h) (j_var nin))))))) (fun _ m => absurd m List.not_mem_nil) h⟩)
theorem ok_is_count {f : Addr} {fd : FuncData} (F : Fun K "is_count" "is_count" s_is_count f fd) (cis_integer : Cal P w K mg base 1 "is_integer" P_is_integer (spD ⟨K, κ⟩ 1 L_is_integer)) : FnOk P w K mg base CX0 2 f fd P_is_count (spD ⟨K, κ⟩ 1 L_is_count) := by
  obtain ⟨f_is_integer, fd_is_integer, G_is_integer, b_is_integer, g_is_integer, k_is_integer⟩ := cis_integer
  exact F.ok sc_is_count (fun vs H Q E h => h.1) (fun cdv A outer s H vs Q E hr h => ⟨_, (pss_one (ps_ret (pe_and (pe_call G_is_integer (hr.mono (by decide)) rfl g_is_integer k_is_integer b_is_integer .nil pass0 (pa_cons (pv 0) pa_nil)) (pe_one (pe_cmpR op_ge (pv 0) pe_int (nomark _)))))), ok_body (Z := ⟨K, κ⟩) (O := []) (js_ret (JD.w (j_andV (j_call (ja_cons (j_var nin) ja_nil) (len_cons (fun _ _ _ _ h => len_nil h))) (j_op upD r_ge (j_var nin) j_int)))) (fun _ m => absurd m List.not_mem_nil) h⟩)
theorem ok_is_plain_part {f : Addr} {fd : FuncData} (F : Fun K "is_plain_part" "is_plain_part" s_is_plain_part f fd) (GT_SIDES : GTup K mg "SIDES" a_SIDES ["narrow", "wide"]) (GT_RULES : GTup K mg "RULES" a_RULES ["cut", "empty", "refuse"]) (GT_MANNERS : GTup K mg "MANNERS" a_MANNERS ["empty", "anew"]) (cis_integer : Cal P w K mg base 1 "is_integer" P_is_integer (spD ⟨K, κ⟩ 1 L_is_integer)) (cis_count : Cal P w K mg base 2 "is_count" P_is_count (spD ⟨K, κ⟩ 1 L_is_count)) : FnOk P w K mg base CX0 3 f fd P_is_plain_part (spD ⟨K, κ⟩ 2 L_is_plain_part) := by
  obtain ⟨f_is_integer, fd_is_integer, G_is_integer, b_is_integer, g_is_integer, k_is_integer⟩ := cis_integer
  obtain ⟨f_is_count, fd_is_count, G_is_count, b_is_count, g_is_count, k_is_count⟩ := cis_count
  exact F.ok sc_is_plain_part (fun vs H Q E h => h.1) (fun cdv A outer s H vs Q E hr h => ⟨_, (pss_cons (ps_if (pt_cmpR op_eq (pv 0) pe_str (nomark _)) (pss_one (ps_ret (pe_cmpR (op_inS (neg := false) (Z := ⟨K, κ⟩) (hu70 hr) rfl) (pv 1) (pe_glob (v := .ref a_SIDES) rfl GT_SIDES.g rfl) rfl))) pss_nil)
      (pss_cons (ps_if (pt_cmpR op_eq (pv 0) pe_str (nomark _)) (pss_one (ps_ret (pe_cmpR (op_inS (neg := false) (Z := ⟨K, κ⟩) (hu70 hr) rfl) (pv 1) (pe_glob (v := .ref a_RULES) rfl GT_RULES.g rfl) rfl))) pss_nil)
      (pss_cons (ps_if (pt_cmpR op_eq (pv 0) pe_str (nomark _)) (pss_one (ps_ret (pe_cmpR (op_inS (neg := false) (Z := ⟨K, κ⟩) (hu70 hr) rfl) (pv 1) (pe_glob (v := .ref a_MANNERS) rfl GT_MANNERS.g rfl) rfl))) pss_nil)
      (pss_cons (ps_if (pt_cmpR op_eq (pv 0) pe_str (nomark _)) (pss_one (ps_ret (pe_call G_is_integer (hr.mono (by decide)) rfl g_is_integer k_is_integer b_is_integer .nil pass0 (pa_cons (pv 1) pa_nil)))) pss_nil)
      (pss_one (ps_ret (pe_call G_is_count (hr.mono (by decide)) rfl g_is_count k_is_count b_is_count .nil pass0 (pa_cons (pv 1) pa_nil)))))))), ok_body (Z := ⟨K, κ⟩) (O := []) (js_seq (js_if (jb_test (j_op upD r_eq (j_var nin) j_str)) (js_ret (JD.w (j_op upD (r_inS (neg := false)) (j_var nin) (JD.w (j_c GT_SIDES.isD))))) js_next)
      (js_seq (js_if (jb_test (j_op upD r_eq (j_var nin) j_str)) (js_ret (JD.w (j_op upD (r_inS (neg := false)) (j_var nin) (JD.w (j_c GT_RULES.isD))))) js_next)
      (js_seq (js_if (jb_test (j_op upD r_eq (j_var nin) j_str)) (js_ret (JD.w (j_op upD (r_inS (neg := false)) (j_var nin) (JD.w (j_c GT_MANNERS.isD))))) js_next)
      (js_seq (js_if (jb_test (j_op upD r_eq (j_var nin) j_str)) (js_ret (JD.w (j_call (ja_cons (j_var nin) ja_nil) (len_cons (fun _ _ _ _ h => len_nil h))))) js_next)
      (js_ret (JD.w (j_call (ja_cons (j_var nin) ja_nil) (len_cons (fun _ _ _ _ h => len_nil h))))))))) (fun _ m => absurd m List.not_mem_nil) h⟩)
theorem ok_compares_itself {f : Addr} {fd : FuncData} (F : Fun K "compares_itself" "compares_itself" s_compares_itself f fd) : FnOk P w K mg base CX0 1 f fd P_compares_itself (spD ⟨K, κ⟩ 1 L_compares_itself) := by
  exact F.ok sc_compares_itself (fun vs H Q E h => h.1) (fun cdv A outer s H vs Q E hr h => ⟨_, (pss_cons (ps_if (pt_cmpR op_eq (pe_ix ix_tup (pv 0) pe_int (fun _ _ => rfl)) pe_str (nomark _)) (pss_one (ps_ret (pe_cmpR (op_eqT (Z := ⟨K, κ⟩) hr.units rfl) (pe_slice sl_tupA (pv 0) (po_some pe_int) (po_some pe_int)) (pe_slice sl_tupA (pv 0) (po_some pe_int) (po_some pe_int)) (nomark _)))) pss_nil)
      (pss_one (ps_ret (pe_and (pe_cmpR op_eq (pe_ix ix_tup (pv 0) pe_int (fun _ _ => rfl)) pe_str (nomark _)) (pe_one (pe_cmpR op_eq (pe_ix ix_tup (pv 0) pe_int (fun _ _ => rfl)) (pe_ix ix_tup (pv 0) pe_int (fun _ _ => rfl)) (nomark _))))))), ok_body (Z := ⟨K, κ⟩) (O := []) (js_seq (js_if (jb_test (j_op upD r_eq (j_op upD r_ixT (j_var nin) j_int) j_str)) (js_ret (JD.w (j_op upD r_eqT (j_slT (j_var nin) (jo_some j_int) (jo_some j_int)) (j_slT (j_var nin) (jo_some j_int) (jo_some j_int))))) js_next)
      (js_ret (JD.w (j_andV (j_op upD r_eq (j_op upD r_ixT (j_var nin) j_int) j_str) (j_op upD r_eq (j_op upD r_ixT (j_var nin) j_int) (j_op upD r_ixT (j_var nin) j_int)))))) (fun _ m => absurd m List.not_mem_nil) h⟩)
theorem ok__first_word {f : Addr} {fd : FuncData} (F : Fun K "_first_word" "_first_word" s__first_word f fd) (T : TxD mg) : FnOk P w K mg base CX0 1 f fd P__first_word (spD ⟨K, κ⟩ 1 L__first_word) := by
  exact F.ok sc__first_word (fun vs H Q E h => h.1) (fun cdv A outer s H vs Q E hr h => ⟨_, (pss_cons (ps_if (PW.pt (pw_or (pt_not (pt_val (pe_callB call_isi (by rfl) T.n_isinstance (by decide +kernel) (pa_cons (pv 0) (pa_cons (pe_bltn (v := .ty "tuple") (by rfl) T.n_tuple (by decide +kernel) rfl) pa_nil))))) (pw_or (pt_not (pt_truth (pv 0) (fun _ => rfl))) (pw_or1 (pt_not (pt_val (pe_callB call_isi (by rfl) T.n_isinstance (by decide +kernel) (pa_cons (pe_ix ix_tup (pv 0) pe_int (fun _ _ => rfl)) (pa_cons (pe_bltn (v := .ty "str") (by rfl) T.n_str (by decide +kernel) rfl) pa_nil))))))))) (pss_one (ps_ret pe_str)) pss_nil)
      (pss_one (ps_ret (pe_ix ix_tup (pv 0) pe_int (fun _ _ => rfl))))), ok_body (Z := ⟨K, κ⟩) (O := []) (js_seq (js_if (jb_or (jb_not (jb_B (j_cb c_isi (ja_consW (JD.w (j_var nin)) (ja_cons j_ty ja_nil))))) (jb_or (jb_not (jb_tru (j_var nin))) (jb_not (jb_B (j_cb c_isi (ja_consW (JD.w (j_op upD r_ixT (j_var nin) j_int)) (ja_cons j_ty ja_nil))))))) (js_ret (JD.w j_str)) js_next)
      (js_ret (JD.w (j_op upD r_ixT (j_var nin) j_int)))) (fun _ m => absurd m List.not_mem_nil) h⟩)
theorem ok_step_form {f : Addr} {fd : FuncData} (F : Fun K "step_form" "step_form" s_step_form f fd) (KT_STEP_FORMS : GTab K w mg "STEP_FORMS" a_STEP_FORMS t_STEP_FORMS) (c_first_word : Cal P w K mg base 1 "_first_word" P__first_word (spD ⟨K, κ⟩ 1 L__first_word)) : FnOk P w K mg base CX0 2 f fd P_step_form (spD ⟨K, κ⟩ 1 L_step_form) := by
  obtain ⟨f__first_word, fd__first_word, G__first_word, b__first_word, g__first_word, k__first_word⟩ := c_first_word
  exact F.ok sc_step_form (fun vs H Q E h => h.1) (fun cdv A outer s H vs Q E hr h => ⟨_, (pss_one (ps_ret (pe_kget KT_STEP_FORMS.kt (pe_glob (v := .ref a_STEP_FORMS) rfl KT_STEP_FORMS.g rfl) (pe_call G__first_word (hr.mono (by decide)) rfl g__first_word k__first_word b__first_word .nil pass0 (pa_cons (pv 0) pa_nil)) ⟨rfl, rfl, rfl, rfl⟩))), ok_body (Z := ⟨K, κ⟩) (O := []) (js_ret (JD.w (j_kget KT_STEP_FORMS.tab (j_call (ja_cons (j_var nin) ja_nil) (len_cons (fun _ _ _ _ h => len_nil h)))))) (fun _ m => absurd m List.not_mem_nil) h⟩)
theorem ok_event_form {f : Addr} {fd : FuncData} (F : Fun K "event_form" "event_form" s_event_form f fd) (KT_EVENT_FORMS : GTab K w mg "EVENT_FORMS" a_EVENT_FORMS t_EVENT_FORMS) (c_first_word : Cal P w K mg base 1 "_first_word" P__first_word (spD ⟨K, κ⟩ 1 L__first_word)) : FnOk P w K mg base CX0 2 f fd P_event_form (spD ⟨K, κ⟩ 1 L_event_form) := by
  obtain ⟨f__first_word, fd__first_word, G__first_word, b__first_word, g__first_word, k__first_word⟩ := c_first_word
  exact F.ok sc_event_form (fun vs H Q E h => h.1) (fun cdv A outer s H vs Q E hr h => ⟨_, (pss_one (ps_ret (pe_kget KT_EVENT_FORMS.kt (pe_glob (v := .ref a_EVENT_FORMS) rfl KT_EVENT_FORMS.g rfl) (pe_call G__first_word (hr.mono (by decide)) rfl g__first_word k__first_word b__first_word .nil pass0 (pa_cons (pv 0) pa_nil)) ⟨rfl, rfl, rfl, rfl⟩))), ok_body (Z := ⟨K, κ⟩) (O := []) (js_ret (JD.w (j_kget KT_EVENT_FORMS.tab (j_call (ja_cons (j_var nin) ja_nil) (len_cons (fun _ _ _ _ h => len_nil h)))))) (fun _ m => absurd m List.not_mem_nil) h⟩)
theorem ok__is_count {f : Addr} {fd : FuncData} (F : Fun K "_is_count" "_is_count" s__is_count f fd) (TN : TxN mg t1 t2) (cis_count : Cal P w K mg base 2 "is_count" P_is_count (spD ⟨K, κ⟩ 1 L_is_count)) : FnOk P w K mg base CX0 3 f fd P__is_count (spD ⟨K, κ⟩ 1 L__is_count) := by
  obtain ⟨f_is_count, fd_is_count, G_is_count, b_is_count, g_is_count, k_is_count⟩ := cis_count
  exact F.ok sc__is_count (fun vs H Q E h => h.1) (fun cdv A outer s H vs Q E hr h => ⟨_, (pss_one (ps_ret (pe_and (pe_call G_is_count (hr.mono (by decide)) rfl g_is_count k_is_count b_is_count .nil pass0 (pa_cons (pv 0) pa_nil)) (pe_one (pe_cmpR op_le (pv 0) (pe_glob (v := .int 999999999) rfl TN.g_GREATEST_COUNT ⟨_, rfl⟩) (nomark _)))))), ok_body (Z := ⟨K, κ⟩) (O := []) (js_ret (JD.w (j_andV (j_call (ja_cons (j_var nin) ja_nil) (len_cons (fun _ _ _ _ h => len_nil h))) (j_op upD r_le (j_var nin) j_int)))) (fun _ m => absurd m List.not_mem_nil) h⟩)
theorem ok__is_part {f : Addr} {fd : FuncData} (F : Fun K "_is_part" "_is_part" s__is_part f fd) (GT_NAMES : GTup K mg "NAMES" a_NAMES ["column", "program"]) (GT_COUNTS : GTup K mg "COUNTS" a_COUNTS ["edition", "row"]) (cis_name : Cal P w K mg base 1 "is_name" P_is_name (spD ⟨K, κ⟩ 1 L_is_name)) (c_is_count : Cal P w K mg base 3 "_is_count" P__is_count (spD ⟨K, κ⟩ 1 L__is_count)) (cis_plain_part : Cal P w K mg base 3 "is_plain_part" P_is_plain_part (spD ⟨K, κ⟩ 2 L_is_plain_part)) : FnOk P w K mg base CX0 4 f fd P__is_part (spD ⟨K, κ⟩ 2 L__is_part) := by
  obtain ⟨f_is_name, fd_is_name, G_is_name, b_is_name, g_is_name, k_is_name⟩ := cis_name
  obtain ⟨f__is_count, fd__is_count, G__is_count, b__is_count, g__is_count, k__is_count⟩ := c_is_count
  obtain ⟨f_is_plain_part, fd_is_plain_part, G_is_plain_part, b_is_plain_part, g_is_plain_part, k_is_plain_part⟩ := cis_plain_part
  exact F.ok sc__is_part (fun vs H Q E h => h.1) (fun cdv A outer s H vs Q E hr h => ⟨_, (pss_cons (ps_if (pt_cmpR (op_inS (neg := false) (Z := ⟨K, κ⟩) (hu70 hr) rfl) (pv 0) (pe_glob (v := .ref a_NAMES) rfl GT_NAMES.g rfl) rfl) (pss_one (ps_ret (pe_call G_is_name (hr.mono (by decide)) rfl g_is_name k_is_name b_is_name .nil pass0 (pa_cons (pv 1) pa_nil)))) pss_nil)
      (pss_cons (ps_if (pt_cmpR (op_inS (neg := false) (Z := ⟨K, κ⟩) (hu70 hr) rfl) (pv 0) (pe_glob (v := .ref a_COUNTS) rfl GT_COUNTS.g rfl) rfl) (pss_one (ps_ret (pe_call G__is_count (hr.mono (by decide)) rfl g__is_count k__is_count b__is_count .nil pass0 (pa_cons (pv 1) pa_nil)))) pss_nil)
      (pss_one (ps_ret (pe_call G_is_plain_part (hr.mono (by decide)) rfl g_is_plain_part k_is_plain_part b_is_plain_part .nil pass0 (pa_cons (pv 0) (pa_cons (pv 1) pa_nil))))))), ok_body (Z := ⟨K, κ⟩) (O := []) (js_seq (js_if (jb_test (j_op upD (r_inS (neg := false)) (j_var nin) (JD.w (j_c GT_NAMES.isD)))) (js_ret (JD.w (j_call (ja_cons (j_var nin) ja_nil) (len_cons (fun _ _ _ _ h => len_nil h))))) js_next)
      (js_seq (js_if (jb_test (j_op upD (r_inS (neg := false)) (j_var nin) (JD.w (j_c GT_COUNTS.isD)))) (js_ret (JD.w (j_call (ja_cons (j_var nin) ja_nil) (len_cons (fun _ _ _ _ h => len_nil h))))) js_next)
      (js_ret (JD.w (j_call (ja_cons (j_var nin) (ja_cons (j_var nin) ja_nil)) (len_cons (len_cons (fun _ _ _ _ h => len_nil h)))))))) (fun _ m => absurd m List.not_mem_nil) h⟩)
theorem ok__are_parts {f : Addr} {fd : FuncData} (F : Fun K "_are_parts" "_are_parts" s__are_parts f fd) (T : TxD mg) (c_is_part : Cal P w K mg base 4 "_is_part" P__is_part (spD ⟨K, κ⟩ 2 L__is_part)) : FnOk P w K mg base CX0 5 f fd P__are_parts (spD ⟨K, κ⟩ 2 L__are_parts) := by
  obtain ⟨f__is_part, fd__is_part, G__is_part, b__is_part, g__is_part, k__is_part⟩ := c_is_part
  exact F.ok sc__are_parts (fun vs H Q E h => h.1) (fun cdv A outer s H vs Q E hr h => ⟨_, (pss_cons (ps_if (pt_cmpR op_ne (pe_callB call_len_seq (by rfl) T.n_len (by decide +kernel) (pa_cons (pv 1) pa_nil)) (pe_callB call_len_seq (by rfl) T.n_len (by decide +kernel) (pa_cons (pv 0) pa_nil)) (nomark _)) (pss_one (ps_ret pe_bl)) pss_nil)
      (pss_one (ps_ret (pe_callB (cr_all rfl) (by rfl) T.n_all (by decide +kernel) (pa_cons (pe_lc (own := [("part", 2), ("item", 3)]) (g := (gTup _ 2 (gCons (gName 2) (gCons (gName 3) gNil)))) (tt := tYes) rfl sc__are_parts.nd (pi_zipG rfl T.n_zip (pa_cons (pv 0) (pa_cons (pv 1) pa_nil))) (blkOk_by (N := N__are_parts) (sc := defScope s__are_parts) (by decide +kernel)) (fun _ _ _ _ _ => (pg_tup rfl (pgs_cons (pg_name (i := 2) sc__are_parts.nd rfl (Or.inl rfl)) (pgs_cons (pg_name (i := 3) sc__are_parts.nd rfl (Or.inl rfl)) pgs_nil)))) (fun _ _ _ _ _ => pts_nil) (fun _ _ _ _ _ => (pe_call G__is_part (hr.mono (by decide)) rfl g__is_part k__is_part b__is_part .nil pass0 (pa_cons (pv 2) (pa_cons (pv 3) pa_nil))))) pa_nil))))), ok_body (Z := ⟨K, κ⟩) (O := []) (js_seq (js_if (jb_test (j_op upD r_ne (j_cb c_len (ja_consW (JD.w (j_var nin)) ja_nil)) (j_cb c_len (ja_consW (JD.w (j_var nin)) ja_nil)))) (js_ret (JD.w j_bl)) js_next)
      (js_ret (JD.w (j_cb c_all (ja_consW (JD.w (j_lc (ji_zipG xCo (ja_cons (j_var nin) (ja_cons (j_var nin) ja_nil))) (jg_tup (jg_cons (jg_name nin (fun w e => by cases e; decide)) (jg_cons (jg_name nin (fun w e => by cases e; decide)) jg_nil))) jb_yes (j_call (ja_cons (j_var nin) (ja_cons (j_var nin) ja_nil)) (len_cons (len_cons (fun _ _ _ _ h => len_nil h)))))) ja_nil))))) (fun _ m => absurd m List.not_mem_nil) h⟩)
theorem ok_is_step_form {f : Addr} {fd : FuncData} (F : Fun K "is_step_form" "is_step_form" s_is_step_form f fd) (cstep_form : Cal P w K mg base 2 "step_form" P_step_form (spD ⟨K, κ⟩ 1 L_step_form)) (c_are_parts : Cal P w K mg base 5 "_are_parts" P__are_parts (spD ⟨K, κ⟩ 2 L__are_parts)) : FnOk P w K mg base CX0 6 f fd P_is_step_form (spD ⟨K, κ⟩ 1 L_is_step_form) := by
  obtain ⟨f_step_form, fd_step_form, G_step_form, b_step_form, g_step_form, k_step_form⟩ := cstep_form
  obtain ⟨f__are_parts, fd__are_parts, G__are_parts, b__are_parts, g__are_parts, k__are_parts⟩ := c_are_parts
  exact F.ok sc_is_step_form (fun vs H Q E h => h.1) (fun cdv A outer s H vs Q E hr h => ⟨_, (pss_cons (ps_set (i := 1) sc_is_step_form.nd rfl (Or.inl rfl) (pe_call G_step_form (hr.mono (by decide)) rfl g_step_form k_step_form b_step_form .nil pass0 (pa_cons (pv 0) pa_nil)))
      (pss_one (ps_ret (pe_and (pe_cmpR op_notN (pv 1) pe_non (nomark _)) (pe_one (pe_call G__are_parts (hr.mono (by decide)) rfl g__are_parts k__are_parts b__are_parts .nil pass0 (pa_cons (pv 1) (pa_cons (pe_slice sl_tupA (pv 0) (po_some pe_int) po_none) pa_nil)))))))), ok_body (Z := ⟨K, κ⟩) (O := []) (js_seq (js_asg (j_call (ja_cons (j_var nin) ja_nil) (len_cons (fun _ _ _ _ h => len_nil h))) (jg_name nin nofun))
      (js_ret (JD.w (j_andV (j_op upD r_notN (j_var nin) j_non) (j_call (ja_cons (j_var nin) (ja_cons (j_slT (j_var nin) (jo_some j_int) jo_none) ja_nil)) (len_cons (len_cons (fun _ _ _ _ h => len_nil h)))))))) (fun _ m => absurd m List.not_mem_nil) h⟩)
theorem ok_is_event_form {f : Addr} {fd : FuncData} (F : Fun K "is_event_form" "is_event_form" s_is_event_form f fd) (T : TxD mg) (cevent_form : Cal P w K mg base 2 "event_form" P_event_form (spD ⟨K, κ⟩ 1 L_event_form)) (cis_step_form : Cal P w K mg base 6 "is_step_form" P_is_step_form (spD ⟨K, κ⟩ 1 L_is_step_form)) (c_are_parts : Cal P w K mg base 5 "_are_parts" P__are_parts (spD ⟨K, κ⟩ 2 L__are_parts)) (ccompares_itself : Cal P w K mg base 1 "compares_itself" P_compares_itself (spD ⟨K, κ⟩ 1 L_compares_itself)) : FnOk P w K mg base CX0 7 f fd P_is_event_form (spD ⟨K, κ⟩ 1 L_is_event_form) := by
  obtain ⟨f_event_form, fd_event_form, G_event_form, b_event_form, g_event_form, k_event_form⟩ := cevent_form
  obtain ⟨f_is_step_form, fd_is_step_form, G_is_step_form, b_is_step_form, g_is_step_form, k_is_step_form⟩ := cis_step_form
  obtain ⟨f__are_parts, fd__are_parts, G__are_parts, b__are_parts, g__are_parts, k__are_parts⟩ := c_are_parts
  obtain ⟨f_compares_itself, fd_compares_itself, G_compares_itself, b_compares_itself, g_compares_itself, k_compares_itself⟩ := ccompares_itself
  exact F.ok sc_is_event_form (fun vs H Q E h => h.1) (fun cdv A outer s H vs Q E hr h => ⟨_, (pss_cons (ps_set (i := 1) sc_is_event_form.nd rfl (Or.inl rfl) (pe_call G_event_form (hr.mono (by decide)) rfl g_event_form k_event_form b_event_form .nil pass0 (pa_cons (pv 0) pa_nil)))
      (pss_cons (ps_if (PW.pt (pw_or (pt_cmpR op_isN (pv 1) pe_non (nomark _)) (pw_or1 (pt_cmpR op_ne (pe_callB call_len_seq (by rfl) T.n_len (by decide +kernel) (pa_cons (pv 0) pa_nil)) (pe_op op_add (pe_callB call_len_seq (by rfl) T.n_len (by decide +kernel) (pa_cons (pv 1) pa_nil)) pe_int) (nomark _))))) (pss_one (ps_ret pe_bl)) pss_nil)
      (pss_cons (ps_if (pt_cmpR (op_eqT (Z := ⟨K, κ⟩) hr.units rfl) (pv 1) (pe_tup (pa_cons pe_str pa_nil)) (nomark _)) (pss_one (ps_ret (pe_call G_is_step_form (hr.mono (by decide)) rfl g_is_step_form k_is_step_form b_is_step_form .nil pass0 (pa_cons (pe_ix ix_tup (pv 0) pe_int (fun _ _ => rfl)) pa_nil)))) pss_nil)
      (pss_one (ps_ret (pe_and (pe_call G__are_parts (hr.mono (by decide)) rfl g__are_parts k__are_parts b__are_parts .nil pass0 (pa_cons (pv 1) (pa_cons (pe_slice sl_tupA (pv 0) (po_some pe_int) po_none) pa_nil))) (pe_one (pe_not (pe_call G_compares_itself (hr.mono (by decide)) rfl g_compares_itself k_compares_itself b_compares_itself .nil pass0 (pa_cons (pv 0) pa_nil)))))))))), ok_body (Z := ⟨K, κ⟩) (O := []) (js_seq (js_asg (j_call (ja_cons (j_var nin) ja_nil) (len_cons (fun _ _ _ _ h => len_nil h))) (jg_name nin nofun))
      (js_seq (js_if (jb_or (jb_test (j_op upD r_isN (j_var nin) j_non)) (jb_test (j_op upD r_ne (j_cb c_len (ja_consW (JD.w (j_var nin)) ja_nil)) (j_op upD r_add (j_cb c_len (ja_consW (JD.w (j_var nin)) ja_nil)) j_int)))) (js_ret (JD.w j_bl)) js_next)
      (js_seq (js_if (jb_test (j_op upD r_eqT (j_var nin) (j_tup (ja_cons j_str ja_nil)))) (js_ret (JD.w (j_call (ja_cons (j_op upD r_ixT (j_var nin) j_int) ja_nil) (len_cons (fun _ _ _ _ h => len_nil h))))) js_next)
      (js_ret (JD.w (j_andV (j_call (ja_cons (j_var nin) (ja_cons (j_slT (j_var nin) (jo_some j_int) jo_none) ja_nil)) (len_cons (len_cons (fun _ _ _ _ h => len_nil h)))) (j_notV (j_call (ja_cons (j_var nin) ja_nil) (len_cons (fun _ _ _ _ h => len_nil h)))))))))) (fun _ m => absurd m List.not_mem_nil) h⟩)
theorem ok_row_of_step {f : Addr} {fd : FuncData} (F : Fun K "row_of_step" "row_of_step" s_row_of_step f fd) (T : TxD mg) : FnOk P w K mg base CX0 1 f fd P_row_of_step (spD ⟨K, κ⟩ 1 L_row_of_step) := by
  exact F.ok sc_row_of_step (fun vs H Q E h => h.1) (fun cdv A outer s H vs Q E hr h => ⟨_, (pss_one (ps_ret (pe_join pe_str (pe_lc (own := [("word", 1)]) (g := (gName 1)) (tt := tYes) rfl sc_row_of_step.nd (pi_tup (pv 0)) (blkOk_by (N := N_row_of_step) (sc := defScope s_row_of_step) (by decide +kernel)) (fun _ _ _ _ _ => (pg_name (i := 1) sc_row_of_step.nd rfl (Or.inl rfl))) (fun _ _ _ _ _ => pts_nil) (fun _ _ _ _ _ => (pe_joined1 (pe_fmt (pv 1)))))))), ok_body (Z := ⟨K, κ⟩) (O := []) (js_ret (JD.w (j_join j_str (j_lc (ji_tup xCo (j_var nin)) (jg_name nin (fun w e => by cases e; decide)) jb_yes (j_fmt (j_var nin)))))) (fun _ m => absurd m List.not_mem_nil) h⟩)
theorem ok_row_of_event {f : Addr} {fd : FuncData} (F : Fun K "row_of_event" "row_of_event" s_row_of_event f fd) (crow_of_step : Cal P w K mg base 1 "row_of_step" P_row_of_step (spD ⟨K, κ⟩ 1 L_row_of_step)) : FnOk P w K mg base CX0 2 f fd P_row_of_event (spD ⟨K, κ⟩ 1 L_row_of_event) := by
  obtain ⟨f_row_of_step, fd_row_of_step, G_row_of_step, b_row_of_step, g_row_of_step, k_row_of_step⟩ := crow_of_step
  exact F.ok sc_row_of_event (fun vs H Q E h => h.1) (fun cdv A outer s H vs Q E hr h => ⟨_, (pss_cons (ps_if (pt_cmpR (op_inS (neg := false) (Z := ⟨K, κ⟩) (hu70 hr) rfl) (pe_ix ix_tup (pv 0) pe_int (fun _ _ => rfl)) (pe_tup (pa_cons pe_str (pa_cons pe_str pa_nil))) rfl) (pss_one (ps_ret (pe_joined (.cons (pe_fmt (pe_ix ix_tup (pv 0) pe_int (fun _ _ => rfl))) (.cons pe_str (.cons (pe_fmt (pe_call G_row_of_step (hr.mono (by decide)) rfl g_row_of_step k_row_of_step b_row_of_step .nil pass0 (pa_cons (pe_ix ix_tup (pv 0) pe_int (fun _ _ => rfl)) pa_nil))) .nil)))))) pss_nil)
      (pss_one (ps_ret (pe_call G_row_of_step (hr.mono (by decide)) rfl g_row_of_step k_row_of_step b_row_of_step .nil pass0 (pa_cons (pv 0) pa_nil))))), ok_body (Z := ⟨K, κ⟩) (O := []) (js_seq (js_if (jb_test (j_op upD (r_inS (neg := false)) (j_op upD r_ixT (j_var nin) j_int) (JD.w (j_tup (ja_cons j_str (ja_cons j_str ja_nil)))))) (js_ret (JD.w (j_joined (.cons (j_fmt (j_op upD r_ixT (j_var nin) j_int)) (.cons j_str (.cons (j_fmt (j_call (ja_cons (j_op upD r_ixT (j_var nin) j_int) ja_nil) (len_cons (fun _ _ _ _ h => len_nil h)))) .nil)))))) js_next)
      (js_ret (JD.w (j_call (ja_cons (j_var nin) ja_nil) (len_cons (fun _ _ _ _ h => len_nil h)))))) (fun _ m => absurd m List.not_mem_nil) h⟩)
theorem ok_show_plan {f : Addr} {fd : FuncData} (F : Fun K "show_plan" "show_plan" s_show_plan f fd) (T : TxD mg) (EX_BadPlan : ExT K mg CW C_BadPlan "BadPlan" "index") (cE_BadPlan : CalI P w K mg base C_BadPlan "index" P_BadPlan___init__) (κ_BadPlan : κ "BadPlan" = C_BadPlan) (cis_step_form : Cal P w K mg base 6 "is_step_form" P_is_step_form (spD ⟨K, κ⟩ 1 L_is_step_form)) (crow_of_step : Cal P w K mg base 1 "row_of_step" P_row_of_step (spD ⟨K, κ⟩ 1 L_row_of_step)) : FnOk P w K mg base (L2.CX P w) 7 f fd P_show_plan (spD ⟨K, κ⟩ 1 L_show_plan) := by
  obtain ⟨f_is_step_form, fd_is_step_form, G_is_step_form, b_is_step_form, g_is_step_form, k_is_step_form⟩ := cis_step_form
  obtain ⟨f_row_of_step, fd_row_of_step, G_row_of_step, b_row_of_step, g_row_of_step, k_row_of_step⟩ := crow_of_step
  obtain ⟨f_b, fd_b, i_BadPlan, t_BadPlan, G_BadPlan, b_BadPlan⟩ := cE_BadPlan
  exact F.okX sc_show_plan (fun vs H Q E h => h.1) (fun cdv A outer s H vs Q E hr h => ⟨_, (pss_cons (ps_if (pt_not (pt_val (pe_callB call_isi (by rfl) T.n_isinstance (by decide +kernel) (pa_cons (pv 0) (pa_cons (pe_bltn (v := .ty "tuple") (by rfl) T.n_tuple (by decide +kernel) rfl) pa_nil))))) (pss_one (ps_raise rfl (takes_of rfl rfl rfl rfl) (pmk_oex EX_BadPlan.ox i_BadPlan t_BadPlan G_BadPlan (hr.mono (by decide)) b_BadPlan .nil pass0 rfl EX_BadPlan.g (pa_cons pe_non pa_nil)))) pss_nil)
      (pss_cons (ps_for (passes_of rfl) rfl (pi_enumG rfl T.n_enumerate (pa_cons (pv 0) pa_nil)) (pg_tup rfl (pgs_cons (pg_name (i := 1) sc_show_plan.nd rfl (Or.inl rfl)) (pgs_cons (pg_name (i := 2) sc_show_plan.nd rfl (Or.inl rfl)) pgs_nil))) (pss_one (ps_if (pt_not (pt_val (pe_call G_is_step_form (hr.mono (by decide)) rfl g_is_step_form k_is_step_form b_is_step_form .nil pass0 (pa_cons (pv 2) pa_nil)))) (pss_one (ps_raise rfl (takes_of rfl rfl rfl rfl) (pmk_oex EX_BadPlan.ox i_BadPlan t_BadPlan G_BadPlan (hr.mono (by decide)) b_BadPlan .nil pass0 rfl EX_BadPlan.g (pa_cons (pv 1) pa_nil)))) pss_nil)))
      (pss_one (ps_ret (pe_join pe_str (pe_lc (own := [("step", 2)]) (g := (gName 2)) (tt := tYes) rfl sc_show_plan.nd (pi_tup (pv 0)) (blkOk_by (N := N_show_plan) (sc := defScope s_show_plan) (by decide +kernel)) (fun _ _ _ _ _ => (pg_name (i := 2) sc_show_plan.nd rfl (Or.inl rfl))) (fun _ _ _ _ _ => pts_nil) (fun _ _ _ _ _ => (pe_call G_row_of_step (hr.mono (by decide)) rfl g_row_of_step k_row_of_step b_row_of_step .nil pass0 (pa_cons (pv 2) pa_nil))))))))), ok_body (Z := ⟨K, κ⟩) (O := []) (js_seq (js_if (jb_not (jb_B (j_cb c_isi (ja_consW (JD.w (j_var nin)) (ja_cons j_ty ja_nil))))) (js_raise κ_BadPlan (ja_cons j_non ja_nil)) js_next)
      (js_seq (js_for (ji_enumG xS (ja_cons (j_var nin) ja_nil)) (jg_tup (jg_cons (jg_name nin nofun) (jg_cons (jg_name nin nofun) jg_nil))) (js_if (jb_not (jb_B (j_call (ja_cons (j_var nin) ja_nil) (len_cons (fun _ _ _ _ h => len_nil h))))) (js_raise κ_BadPlan (ja_cons (j_var nin) ja_nil)) js_next))
      (js_ret (JD.w (j_join j_str (j_lc (ji_tup xCo (j_var nin)) (jg_name nin (fun w e => by cases e; decide)) jb_yes (j_call (ja_cons (j_var nin) ja_nil) (len_cons (fun _ _ _ _ h => len_nil h))))))))) (fun _ m => absurd m List.not_mem_nil) h⟩)
theorem ok_show_run {f : Addr} {fd : FuncData} (F : Fun K "show_run" "show_run" s_show_run f fd) (T : TxD mg) (EX_BadRun : ExT K mg CW C_BadRun "BadRun" "index") (cE_BadRun : CalI P w K mg base C_BadRun "index" P_BadRun___init__) (κ_BadRun : κ "BadRun" = C_BadRun) (cis_event_form : Cal P w K mg base 7 "is_event_form" P_is_event_form (spD ⟨K, κ⟩ 1 L_is_event_form)) (crow_of_event : Cal P w K mg base 2 "row_of_event" P_row_of_event (spD ⟨K, κ⟩ 1 L_row_of_event)) : FnOk P w K mg base (L2.CX P w) 8 f fd P_show_run (spD ⟨K, κ⟩ 1 L_show_run) := by
  obtain ⟨f_is_event_form, fd_is_event_form, G_is_event_form, b_is_event_form, g_is_event_form, k_is_event_form⟩ := cis_event_form
  obtain ⟨f_row_of_event, fd_row_of_event, G_row_of_event, b_row_of_event, g_row_of_event, k_row_of_event⟩ := crow_of_event
  obtain ⟨f_b, fd_b, i_BadRun, t_BadRun, G_BadRun, b_BadRun⟩ := cE_BadRun
  exact F.okX sc_show_run (fun vs H Q E h => h.1) (fun cdv A outer s H vs Q E hr h => ⟨_, (pss_cons (ps_if (pt_not (pt_val (pe_callB call_isi (by rfl) T.n_isinstance (by decide +kernel) (pa_cons (pv 0) (pa_cons (pe_bltn (v := .ty "tuple") (by rfl) T.n_tuple (by decide +kernel) rfl) pa_nil))))) (pss_one (ps_raise rfl (takes_of rfl rfl rfl rfl) (pmk_oex EX_BadRun.ox i_BadRun t_BadRun G_BadRun (hr.mono (by decide)) b_BadRun .nil pass0 rfl EX_BadRun.g (pa_cons pe_non pa_nil)))) pss_nil)
      (pss_cons (ps_for (passes_of rfl) rfl (pi_enumG rfl T.n_enumerate (pa_cons (pv 0) pa_nil)) (pg_tup rfl (pgs_cons (pg_name (i := 1) sc_show_run.nd rfl (Or.inl rfl)) (pgs_cons (pg_name (i := 2) sc_show_run.nd rfl (Or.inl rfl)) pgs_nil))) (pss_one (ps_if (pt_not (pt_val (pe_call G_is_event_form (hr.mono (by decide)) rfl g_is_event_form k_is_event_form b_is_event_form .nil pass0 (pa_cons (pv 2) pa_nil)))) (pss_one (ps_raise rfl (takes_of rfl rfl rfl rfl) (pmk_oex EX_BadRun.ox i_BadRun t_BadRun G_BadRun (hr.mono (by decide)) b_BadRun .nil pass0 rfl EX_BadRun.g (pa_cons (pv 1) pa_nil)))) pss_nil)))
      (pss_one (ps_ret (pe_join pe_str (pe_lc (own := [("event", 2)]) (g := (gName 2)) (tt := tYes) rfl sc_show_run.nd (pi_tup (pv 0)) (blkOk_by (N := N_show_run) (sc := defScope s_show_run) (by decide +kernel)) (fun _ _ _ _ _ => (pg_name (i := 2) sc_show_run.nd rfl (Or.inl rfl))) (fun _ _ _ _ _ => pts_nil) (fun _ _ _ _ _ => (pe_call G_row_of_event (hr.mono (by decide)) rfl g_row_of_event k_row_of_event b_row_of_event .nil pass0 (pa_cons (pv 2) pa_nil))))))))), ok_body (Z := ⟨K, κ⟩) (O := []) (js_seq (js_if (jb_not (jb_B (j_cb c_isi (ja_consW (JD.w (j_var nin)) (ja_cons j_ty ja_nil))))) (js_raise κ_BadRun (ja_cons j_non ja_nil)) js_next)
      (js_seq (js_for (ji_enumG xS (ja_cons (j_var nin) ja_nil)) (jg_tup (jg_cons (jg_name nin nofun) (jg_cons (jg_name nin nofun) jg_nil))) (js_if (jb_not (jb_B (j_call (ja_cons (j_var nin) ja_nil) (len_cons (fun _ _ _ _ h => len_nil h))))) (js_raise κ_BadRun (ja_cons (j_var nin) ja_nil)) js_next))
      (js_ret (JD.w (j_join j_str (j_lc (ji_tup xCo (j_var nin)) (jg_name nin (fun w e => by cases e; decide)) jb_yes (j_call (ja_cons (j_var nin) ja_nil) (len_cons (fun _ _ _ _ h => len_nil h))))))))) (fun _ m => absurd m List.not_mem_nil) h⟩)
theorem ok__law_pot_of {f : Addr} {fd : FuncData} (F : Fun K "_law_pot_of" "_law_pot_of" s__law_pot_of f fd) (T : TxD mg) : FnOk P w K mg base CX0 1 f fd P__law_pot_of (spD ⟨K, κ⟩ 2 L__law_pot_of) := by
  exact F.ok sc__law_pot_of (fun vs H Q E h => h.1) (fun cdv A outer s H vs Q E hr h => ⟨_, (pss_cons (ps_set (i := 2) sc__law_pot_of.nd rfl (Or.inl rfl) (pe_ifExp (pt_cmpR op_lt (pv 1) (pe_callB call_len_seq (by rfl) T.n_len (by decide +kernel) (pa_cons (pv 0) pa_nil)) (nomark _)) (pe_ix ix_list (pv 0) (pv 1) (fun _ _ => rfl)) (pe_op op_add (pe_op op_mul pe_int (pv 1)) pe_int)))
      (pss_cons (ps_set (i := 3) sc__law_pot_of.nd rfl (Or.inl rfl) (pe_op op_mul (pe_op op_mod (pe_callTy call_int1 (by rfl) T.n_int (by decide +kernel) (pa_cons (pe_callB call_abs (by rfl) T.n_abs (by decide +kernel) (pa_cons (pv 2) pa_nil)) pa_nil)) (pe_op op_powZ (pe_op op_pow pe_int pe_int) pe_int)) (pe_callTy call_int1 (by rfl) T.n_int (by decide +kernel) (pa_cons (pe_cmpR op_ge (pe_callB call_abs (by rfl) T.n_abs (by decide +kernel) (pa_cons (pv 2) pa_nil)) (pe_op op_pow pe_int pe_int) (nomark _)) pa_nil))))
      (pss_one (ps_ret (pe_lst (pa_cons (pv 3) (pa_cons (pe_op op_mod (pe_callTy call_int1 (by rfl) T.n_int (by decide +kernel) (pa_cons (pe_op op_add (pe_op op_add (pe_op op_mul (pe_op op_mod (pe_callTy call_int1 (by rfl) T.n_int (by decide +kernel) (pa_cons (pv 2) pa_nil)) pe_int) pe_int) (pe_op op_mul (pe_op op_mul pe_int (pv 1)) (pv 1))) pe_int) pa_nil)) pe_int) (pa_cons pe_int pa_nil)))))))), ok_body (Z := ⟨K, κ⟩) (O := []) (js_seq (js_asg (j_if (jb_test (j_op upD r_lt (j_var nin) (j_cb c_len (ja_consW (JD.w (j_var nin)) ja_nil)))) (j_op upD r_ixSc (j_var nin) (j_var nin)) (j_op upD r_add (j_op upD r_mul j_int (j_var nin)) j_int)) (jg_name nin nofun))
      (js_seq (js_asg (j_op upD r_mul (j_op upD r_mod (j_cb c_int (ja_cons (j_cb c_abs (ja_cons (j_var nin) ja_nil)) ja_nil)) (j_op upD r_powZ (j_op upD r_pow j_int j_int) j_int)) (j_cb c_int (ja_cons (j_op upD r_ge (j_cb c_abs (ja_cons (j_var nin) ja_nil)) (j_op upD r_pow j_int j_int)) ja_nil))) (jg_name nin nofun))
      (js_retLo (jf_lst (ja_cons (j_var nin) (ja_cons (j_op upD r_mod (j_cb c_int (ja_cons (j_op upD r_add (j_op upD r_add (j_op upD r_mul (j_op upD r_mod (j_cb c_int (ja_cons (j_var nin) ja_nil)) j_int) j_int) (j_op upD r_mul (j_op upD r_mul j_int (j_var nin)) (j_var nin))) j_int) ja_nil)) j_int) (ja_cons j_int ja_nil))))))) (fun _ m => absurd m List.not_mem_nil) h⟩)
theorem ok__law_take {f : Addr} {fd : FuncData} (F : Fun K "_law_take" "_law_take" s__law_take f fd) (T : TxD mg) : FnOk P w K mg base CX0 1 f fd P__law_take (spD ⟨K, κ⟩ 2 L__law_take) := by
  exact F.ok sc__law_take (fun vs H Q E h => h.1) (fun cdv A outer s H vs Q E hr h => ⟨_, (pss_cons (ps_if (pt_cmpR op_gt (pe_ix ix_list (pv 0) pe_int (fun _ _ => rfl)) pe_int (nomark _)) (pss_cons (ps_set (i := 2) sc__law_take.nd rfl (Or.inl rfl) (pe_op op_mod (pe_callTy call_int1 (by rfl) T.n_int (by decide +kernel) (pa_cons (pe_ix ix_list (pv 0) pe_int (fun _ _ => rfl)) pa_nil)) (pv 1)))
      (pss_cons (ps_asg (pe_op op_fdivW (pe_ix ix_list (pv 0) pe_int (fun _ _ => rfl)) (pv 1)) (pg_sub (pv 0) pe_int set_list))
      (pss_one (ps_ret (pv 2))))) pss_nil)
      (pss_cons (ps_asg (pe_op op_add (pe_ix ix_list (pv 0) pe_int (fun _ _ => rfl)) pe_int) (pg_sub (pv 0) pe_int set_list))
      (pss_cons (ps_set (i := 3) sc__law_take.nd rfl (Or.inl rfl) (pe_ix ix_list (pe_lst (pa_cons pe_int (pa_cons pe_int (pa_cons pe_int (pa_cons pe_int (pa_cons pe_int pa_nil)))))) (pe_op op_mod (pe_callTy call_int1 (by rfl) T.n_int (by decide +kernel) (pa_cons (pe_ix ix_list (pv 0) pe_int (fun _ _ => rfl)) pa_nil)) pe_int) (fun _ _ => rfl)))
      (pss_cons (ps_set (i := 4) sc__law_take.nd rfl (Or.inl rfl) (pe_op op_mod (pe_callTy call_int1 (by rfl) T.n_int (by decide +kernel) (pa_cons (pe_op op_pow (pe_op op_add (pe_op op_add (pe_ix ix_list (pv 0) pe_int (fun _ _ => rfl)) (pe_op op_mul (pe_op op_mul pe_int (pe_ix ix_list (pv 0) pe_int (fun _ _ => rfl))) (pe_ix ix_list (pv 0) pe_int (fun _ _ => rfl)))) pe_int) pe_int) pa_nil)) (pv 3)))
      (pss_one (ps_ret (pe_op op_mod (pe_callTy call_int1 (by rfl) T.n_int (by decide +kernel) (pa_cons (pe_op op_fdivW (pe_op op_mul (pv 4) (pe_op op_add (pe_op op_mod (pe_callTy call_int1 (by rfl) T.n_int (by decide +kernel) (pa_cons (pv 4) pa_nil)) pe_int) (pe_op op_mul pe_int (pe_ix ix_list (pv 0) pe_int (fun _ _ => rfl))))) pe_int) pa_nil)) (pv 1)))))))), ok_body (Z := ⟨K, κ⟩) (O := []) (js_seq (js_if (jb_test (j_op upD r_gt (j_op upD r_ixLo (j_var nin) j_int) j_int)) (js_seq (js_asg (j_op upD r_mod (j_cb c_int (ja_cons (j_op upD r_ixLo (j_var nin) j_int) ja_nil)) (j_var nin)) (jg_name nin nofun))
      (js_seq (js_setLo nin j_int (j_op upD r_div (j_op upD r_ixLo (j_var nin) j_int) (j_var nin)))
      (js_ret (JD.w (j_var nin))))) js_next)
      (js_seq (js_setLo nin j_int (j_op upD r_add (j_op upD r_ixLo (j_var nin) j_int) j_int))
      (js_seq (js_asg (j_op upW r_ixL (JD.w (j_lst (ja_cons j_int (ja_cons j_int (ja_cons j_int (ja_cons j_int (ja_cons j_int ja_nil))))))) (j_op upD r_mod (j_cb c_int (ja_cons (j_op upD r_ixLo (j_var nin) j_int) ja_nil)) j_int)) (jg_name nin nofun))
      (js_seq (js_asg (j_op upD r_mod (j_cb c_int (ja_cons (j_op upD r_pow (j_op upD r_add (j_op upD r_add (j_op upD r_ixLo (j_var nin) j_int) (j_op upD r_mul (j_op upD r_mul j_int (j_op upD r_ixLo (j_var nin) j_int)) (j_op upD r_ixLo (j_var nin) j_int))) j_int) j_int) ja_nil)) (j_var nin)) (jg_name nin nofun))
      (js_ret (JD.w (j_op upD r_mod (j_cb c_int (ja_cons (j_op upD r_div (j_op upD r_mul (j_var nin) (j_op upD r_add (j_op upD r_mod (j_cb c_int (ja_cons (j_var nin) ja_nil)) j_int) (j_op upD r_mul j_int (j_op upD r_ixLo (j_var nin) j_int)))) j_int) ja_nil)) (j_var nin)))))))) (fun _ m => absurd m List.not_mem_nil) h⟩)
theorem ok__law_of {f : Addr} {fd : FuncData} (F : Fun K "_law_of" "_law_of" s__law_of f fd) (T : TxD mg) (c_law_take : Cal P w K mg base 1 "_law_take" P__law_take (spD ⟨K, κ⟩ 2 L__law_take)) : FnOk P w K mg base CX0 2 f fd P__law_of (spD ⟨K, κ⟩ 2 L__law_of) := by
  obtain ⟨f__law_take, fd__law_take, G__law_take, b__law_take, g__law_take, k__law_take⟩ := c_law_take
  exact F.ok sc__law_of (fun vs H Q E h => h.1) (fun cdv A outer s H vs Q E hr h => ⟨_, (pss_one (ps_ret (pe_ix ix_list (pv 1) (pe_call G__law_take (hr.mono (by decide)) rfl g__law_take k__law_take b__law_take .nil pass0 (pa_cons (pv 0) (pa_cons (pe_callB call_len_seq (by rfl) T.n_len (by decide +kernel) (pa_cons (pv 1) pa_nil)) pa_nil))) (fun _ _ => rfl)))), ok_body (Z := ⟨K, κ⟩) (O := []) (js_ret (JD.w (j_op upW r_ixL (JD.w (j_var nin)) (j_call (ja_cons (j_var nin) (ja_cons (j_cb c_len (ja_consW (JD.w (j_var nin)) ja_nil)) ja_nil)) (len_cons (len_cons (fun _ _ _ _ h => len_nil h))))))) (fun _ m => absurd m List.not_mem_nil) h⟩)
theorem ok__law_name {f : Addr} {fd : FuncData} (F : Fun K "_law_name" "_law_name" s__law_name f fd) (c_law_of : Cal P w K mg base 2 "_law_of" P__law_of (spD ⟨K, κ⟩ 2 L__law_of)) : FnOk P w K mg base CX0 3 f fd P__law_name (spD ⟨K, κ⟩ 1 L__law_name) := by
  obtain ⟨f__law_of, fd__law_of, G__law_of, b__law_of, g__law_of, k__law_of⟩ := c_law_of
  exact F.ok sc__law_name (fun vs H Q E h => h.1) (fun cdv A outer s H vs Q E hr h => ⟨_, (pss_cons (ps_set (i := 1) sc__law_name.nd rfl (Or.inl rfl) (pe_lst (pa_cons pe_str (pa_cons pe_str (pa_cons pe_str (pa_cons pe_str (pa_cons pe_str (pa_cons pe_str (pa_cons pe_str (pa_cons pe_str (pa_cons pe_str (pa_cons pe_str (pa_cons pe_str (pa_cons pe_str (pa_cons pe_str pa_nil)))))))))))))))
      (pss_one (ps_ret (pe_call G__law_of (hr.mono (by decide)) rfl g__law_of k__law_of b__law_of .nil pass0 (pa_cons (pv 0) (pa_cons (pv 1) pa_nil)))))), ok_body (Z := ⟨K, κ⟩) (O := []) (js_seq (js_asg (j_lst (ja_cons j_str (ja_cons j_str (ja_cons j_str (ja_cons j_str (ja_cons j_str (ja_cons j_str (ja_cons j_str (ja_cons j_str (ja_cons j_str (ja_cons j_str (ja_cons j_str (ja_cons j_str (ja_cons j_str ja_nil)))))))))))))) (jg_name nin nofun))
      (js_ret (JD.w (j_call (ja_cons (j_var nin) (ja_cons (j_var nin) ja_nil)) (len_cons (len_cons (fun _ _ _ _ h => len_nil h))))))) (fun _ m => absurd m List.not_mem_nil) h⟩)
theorem ok__law_step {f : Addr} {fd : FuncData} (F : Fun K "_law_step" "_law_step" s__law_step f fd) (c_law_of : Cal P w K mg base 2 "_law_of" P__law_of (spD ⟨K, κ⟩ 2 L__law_of)) (c_law_name : Cal P w K mg base 3 "_law_name" P__law_name (spD ⟨K, κ⟩ 1 L__law_name)) (c_law_take : Cal P w K mg base 1 "_law_take" P__law_take (spD ⟨K, κ⟩ 2 L__law_take)) : FnOk P w K mg base CX0 4 f fd P__law_step (spD ⟨K, κ⟩ 1 L__law_step) := by
  obtain ⟨f__law_of, fd__law_of, G__law_of, b__law_of, g__law_of, k__law_of⟩ := c_law_of
  obtain ⟨f__law_name, fd__law_name, G__law_name, b__law_name, g__law_name, k__law_name⟩ := c_law_name
  obtain ⟨f__law_take, fd__law_take, G__law_take, b__law_take, g__law_take, k__law_take⟩ := c_law_take
  exact F.ok sc__law_step (fun vs H Q E h => h.1) (fun cdv A outer s H vs Q E hr h => ⟨_, (pss_cons (ps_par3 (i := 1) (j := 2) (l := 3) rfl sc__law_step.nd rfl rfl rfl (by decide) (by decide) (by decide) rfl rfl rfl (pa_cons (pe_call G__law_name (hr.mono (by decide)) rfl g__law_name k__law_name b__law_name .nil pass0 (pa_cons (pv 0) pa_nil)) (pa_cons (pe_call G__law_of (hr.mono (by decide)) rfl g__law_of k__law_of b__law_of .nil pass0 (pa_cons (pv 0) (pa_cons (pe_lst (pa_cons pe_str (pa_cons pe_str (pa_cons pe_str pa_nil)))) pa_nil))) (pa_cons (pe_call G__law_of (hr.mono (by decide)) rfl g__law_of k__law_of b__law_of .nil pass0 (pa_cons (pv 0) (pa_cons (pe_lst (pa_cons pe_str (pa_cons pe_str pa_nil))) pa_nil))) pa_nil))) (by rfl))
      (pss_cons (ps_set (i := 4) sc__law_step.nd rfl (Or.inl rfl) (pe_op op_sub (pe_op op_add (pe_call G__law_of (hr.mono (by decide)) rfl g__law_of k__law_of b__law_of .nil pass0 (pa_cons (pv 0) (pa_cons (pe_lst (pa_cons pe_int (pa_cons pe_int (pa_cons (pe_un un_neg pe_int) (pa_cons pe_int (pa_cons pe_int (pa_cons (pe_op op_pow pe_int pe_int) (pa_cons (pe_un un_neg (pe_op op_pow pe_int pe_int)) (pa_cons (pe_op op_sub (pe_op op_pow pe_int pe_int) pe_int) pa_nil))))))))) pa_nil))) (pe_call G__law_take (hr.mono (by decide)) rfl g__law_take k__law_take b__law_take .nil pass0 (pa_cons (pv 0) (pa_cons pe_int pa_nil)))) pe_int))
      (pss_cons (ps_set (i := 5) sc__law_step.nd rfl (Or.inl rfl) (pe_lst (pa_cons (pe_tup (pa_cons pe_str (pa_cons (pv 1) pa_nil))) (pa_cons (pe_tup (pa_cons pe_str (pa_cons (pv 1) (pa_cons (pe_call G__law_of (hr.mono (by decide)) rfl g__law_of k__law_of b__law_of .nil pass0 (pa_cons (pv 0) (pa_cons (pe_lst (pa_cons pe_str (pa_cons pe_str pa_nil))) pa_nil))) pa_nil)))) (pa_cons (pe_tup (pa_cons pe_str (pa_cons (pv 1) pa_nil))) (pa_cons (pe_tup (pa_cons pe_str (pa_cons (pv 1) pa_nil))) pa_nil))))))
      (pss_cons (ps_set (i := 5) sc__law_step.nd rfl (Or.inl rfl) (pe_op op_cat (pv 5) (pe_lst (pa_cons (pe_tup (pa_cons pe_str (pa_cons (pv 1) (pa_cons (pv 2) pa_nil)))) (pa_cons (pe_tup (pa_cons pe_str (pa_cons (pv 1) pa_nil))) (pa_cons (pe_tup (pa_cons pe_str (pa_cons (pv 1) (pa_cons (pv 3) pa_nil)))) (pa_cons (pe_tup (pa_cons pe_str (pa_cons (pv 1) pa_nil))) pa_nil)))))))
      (pss_cons (ps_set (i := 5) sc__law_step.nd rfl (Or.inl rfl) (pe_op op_cat (pv 5) (pe_lst (pa_cons (pe_tup (pa_cons pe_str (pa_cons (pv 1) (pa_cons (pv 3) (pa_cons (pv 2) pa_nil))))) (pa_cons (pe_tup (pa_cons pe_str (pa_cons (pv 1) pa_nil))) (pa_cons (pe_tup (pa_cons pe_str (pa_cons (pv 4) pa_nil))) (pa_cons (pe_tup (pa_cons pe_str (pa_cons (pv 4) pa_nil))) pa_nil)))))))
      (pss_one (ps_ret (pe_call G__law_of (hr.mono (by decide)) rfl g__law_of k__law_of b__law_of .nil pass0 (pa_cons (pv 0) (pa_cons (pv 5) pa_nil)))))))))), ok_body (Z := ⟨K, κ⟩) (O := []) (js_seq (js_par3 nin nin nin (ja_cons (j_call (ja_cons (j_var nin) ja_nil) (len_cons (fun _ _ _ _ h => len_nil h))) (ja_cons (j_call (ja_cons (j_var nin) (ja_cons (j_lst (ja_cons j_str (ja_cons j_str (ja_cons j_str ja_nil)))) ja_nil)) (len_cons (len_cons (fun _ _ _ _ h => len_nil h)))) (ja_cons (j_call (ja_cons (j_var nin) (ja_cons (j_lst (ja_cons j_str (ja_cons j_str ja_nil))) ja_nil)) (len_cons (len_cons (fun _ _ _ _ h => len_nil h)))) ja_nil))))
      (js_seq (js_asg (j_op upD r_sub (j_op upD r_add (j_call (ja_cons (j_var nin) (ja_cons (j_lst (ja_cons j_int (ja_cons j_int (ja_cons (j_un u_neg j_int) (ja_cons j_int (ja_cons j_int (ja_cons (j_op upD r_pow j_int j_int) (ja_cons (j_un u_neg (j_op upD r_pow j_int j_int)) (ja_cons (j_op upD r_sub (j_op upD r_pow j_int j_int) j_int) ja_nil))))))))) ja_nil)) (len_cons (len_cons (fun _ _ _ _ h => len_nil h)))) (j_call (ja_cons (j_var nin) (ja_cons j_int ja_nil)) (len_cons (len_cons (fun _ _ _ _ h => len_nil h))))) j_int) (jg_name nin nofun))
      (js_seq (js_asg (j_lst (ja_cons (j_tup (ja_cons j_str (ja_cons (j_var nin) ja_nil))) (ja_cons (j_tup (ja_cons j_str (ja_cons (j_var nin) (ja_cons (j_call (ja_cons (j_var nin) (ja_cons (j_lst (ja_cons j_str (ja_cons j_str ja_nil))) ja_nil)) (len_cons (len_cons (fun _ _ _ _ h => len_nil h)))) ja_nil)))) (ja_cons (j_tup (ja_cons j_str (ja_cons (j_var nin) ja_nil))) (ja_cons (j_tup (ja_cons j_str (ja_cons (j_var nin) ja_nil))) ja_nil))))) (jg_name nin nofun))
      (js_seq (js_asg (j_op upW r_catL (JD.w (j_var nin)) (JD.w (j_lst (ja_cons (j_tup (ja_cons j_str (ja_cons (j_var nin) (ja_cons (j_var nin) ja_nil)))) (ja_cons (j_tup (ja_cons j_str (ja_cons (j_var nin) ja_nil))) (ja_cons (j_tup (ja_cons j_str (ja_cons (j_var nin) (ja_cons (j_var nin) ja_nil)))) (ja_cons (j_tup (ja_cons j_str (ja_cons (j_var nin) ja_nil))) ja_nil))))))) (jg_name nin nofun))
      (js_seq (js_asg (j_op upW r_catL (JD.w (j_var nin)) (JD.w (j_lst (ja_cons (j_tup (ja_cons j_str (ja_cons (j_var nin) (ja_cons (j_var nin) (ja_cons (j_var nin) ja_nil))))) (ja_cons (j_tup (ja_cons j_str (ja_cons (j_var nin) ja_nil))) (ja_cons (j_tup (ja_cons j_str (ja_cons (j_var nin) ja_nil))) (ja_cons (j_tup (ja_cons j_str (ja_cons (j_var nin) ja_nil))) ja_nil))))))) (jg_name nin nofun))
      (js_ret (JD.w (j_call (ja_cons (j_var nin) (ja_cons (j_var nin) ja_nil)) (len_cons (len_cons (fun _ _ _ _ h => len_nil h))))))))))) (fun _ m => absurd m List.not_mem_nil) h⟩)
theorem ok__law_event {f : Addr} {fd : FuncData} (F : Fun K "_law_event" "_law_event" s__law_event f fd) (c_law_of : Cal P w K mg base 2 "_law_of" P__law_of (spD ⟨K, κ⟩ 2 L__law_of)) (c_law_name : Cal P w K mg base 3 "_law_name" P__law_name (spD ⟨K, κ⟩ 1 L__law_name)) (c_law_step : Cal P w K mg base 4 "_law_step" P__law_step (spD ⟨K, κ⟩ 1 L__law_step)) : FnOk P w K mg base CX0 5 f fd P__law_event (spD ⟨K, κ⟩ 1 L__law_event) := by
  obtain ⟨f__law_of, fd__law_of, G__law_of, b__law_of, g__law_of, k__law_of⟩ := c_law_of
  obtain ⟨f__law_name, fd__law_name, G__law_name, b__law_name, g__law_name, k__law_name⟩ := c_law_name
  obtain ⟨f__law_step, fd__law_step, G__law_step, b__law_step, g__law_step, k__law_step⟩ := c_law_step
  exact F.ok sc__law_event (fun vs H Q E h => h.1) (fun cdv A outer s H vs Q E hr h => ⟨_, (pss_cons (ps_par3 (i := 1) (j := 2) (l := 3) rfl sc__law_event.nd rfl rfl rfl (by decide) (by decide) (by decide) rfl rfl rfl (pa_cons (pe_call G__law_name (hr.mono (by decide)) rfl g__law_name k__law_name b__law_name .nil pass0 (pa_cons (pv 0) pa_nil)) (pa_cons (pe_call G__law_name (hr.mono (by decide)) rfl g__law_name k__law_name b__law_name .nil pass0 (pa_cons (pv 0) pa_nil)) (pa_cons (pe_call G__law_of (hr.mono (by decide)) rfl g__law_of k__law_of b__law_of .nil pass0 (pa_cons (pv 0) (pa_cons (pe_lst (pa_cons pe_int (pa_cons pe_int (pa_cons pe_int (pa_cons pe_int (pa_cons (pe_un un_neg pe_int) (pa_cons (pe_op op_pow pe_int pe_int) pa_nil))))))) pa_nil))) pa_nil))) (by rfl))
      (pss_cons (ps_par3 (i := 4) (j := 5) (l := 6) rfl sc__law_event.nd rfl rfl rfl (by decide) (by decide) (by decide) rfl rfl rfl (pa_cons (pe_call G__law_of (hr.mono (by decide)) rfl g__law_of k__law_of b__law_of .nil pass0 (pa_cons (pv 0) (pa_cons (pe_lst (pa_cons pe_int (pa_cons pe_int (pa_cons pe_int (pa_cons pe_int pa_nil))))) pa_nil))) (pa_cons (pe_call G__law_of (hr.mono (by decide)) rfl g__law_of k__law_of b__law_of .nil pass0 (pa_cons (pv 0) (pa_cons (pe_lst (pa_cons pe_int (pa_cons pe_int (pa_cons pe_int pa_nil)))) pa_nil))) (pa_cons (pe_call G__law_of (hr.mono (by decide)) rfl g__law_of k__law_of b__law_of .nil pass0 (pa_cons (pv 0) (pa_cons (pe_lst (pa_cons pe_int (pa_cons pe_int (pa_cons pe_int (pa_cons pe_int pa_nil))))) pa_nil))) pa_nil))) (by rfl))
      (pss_cons (ps_set (i := 7) sc__law_event.nd rfl (Or.inl rfl) (pe_lst (pa_cons (pe_tup (pa_cons pe_str (pa_cons (pv 1) (pa_cons (pv 4) (pa_cons (pv 3) pa_nil))))) (pa_cons (pe_tup (pa_cons pe_str (pa_cons (pe_call G__law_step (hr.mono (by decide)) rfl g__law_step k__law_step b__law_step .nil pass0 (pa_cons (pv 0) pa_nil)) pa_nil))) (pa_cons (pe_tup (pa_cons pe_str (pa_cons (pe_call G__law_step (hr.mono (by decide)) rfl g__law_step k__law_step b__law_step .nil pass0 (pa_cons (pv 0) pa_nil)) pa_nil))) (pa_cons (pe_tup (pa_cons pe_str (pa_cons (pv 4) pa_nil))) pa_nil))))))
      (pss_cons (ps_set (i := 7) sc__law_event.nd rfl (Or.inl rfl) (pe_op op_cat (pv 7) (pe_lst (pa_cons (pe_tup (pa_cons pe_str (pa_cons (pv 2) (pa_cons (pv 6) (pa_cons (pv 1) (pa_cons (pv 4) (pa_cons (pv 3) pa_nil))))))) (pa_cons (pe_tup (pa_cons pe_str (pa_cons (pv 2) (pa_cons (pv 6) (pa_cons (pv 1) (pa_cons (pv 4) (pa_cons (pv 5) pa_nil))))))) pa_nil)))))
      (pss_cons (ps_set (i := 7) sc__law_event.nd rfl (Or.inl rfl) (pe_op op_cat (pv 7) (pe_lst (pa_cons (pe_tup (pa_cons pe_str (pa_cons (pv 2) (pa_cons (pv 6) (pa_cons (pv 1) (pa_cons (pv 4) (pa_cons (pv 3) pa_nil))))))) (pa_cons (pe_tup (pa_cons pe_str (pa_cons (pv 2) (pa_cons (pv 6) (pa_cons (pv 1) (pa_cons (pv 4) pa_nil)))))) pa_nil)))))
      (pss_cons (ps_set (i := 7) sc__law_event.nd rfl (Or.inl rfl) (pe_op op_cat (pv 7) (pe_lst (pa_cons (pe_tup (pa_cons pe_str (pa_cons (pv 2) (pa_cons (pv 6) (pa_cons (pv 1) (pa_cons (pv 4) (pa_cons pe_str (pa_cons (pe_op op_add (pv 4) pe_int) pa_nil)))))))) (pa_cons (pe_tup (pa_cons pe_str (pa_cons (pv 2) (pa_cons (pv 6) (pa_cons (pv 1) (pa_cons pe_int (pa_cons (pv 5) pa_nil))))))) pa_nil)))))
      (pss_one (ps_ret (pe_call G__law_of (hr.mono (by decide)) rfl g__law_of k__law_of b__law_of .nil pass0 (pa_cons (pv 0) (pa_cons (pv 7) pa_nil))))))))))), ok_body (Z := ⟨K, κ⟩) (O := []) (js_seq (js_par3 nin nin nin (ja_cons (j_call (ja_cons (j_var nin) ja_nil) (len_cons (fun _ _ _ _ h => len_nil h))) (ja_cons (j_call (ja_cons (j_var nin) ja_nil) (len_cons (fun _ _ _ _ h => len_nil h))) (ja_cons (j_call (ja_cons (j_var nin) (ja_cons (j_lst (ja_cons j_int (ja_cons j_int (ja_cons j_int (ja_cons j_int (ja_cons (j_un u_neg j_int) (ja_cons (j_op upD r_pow j_int j_int) ja_nil))))))) ja_nil)) (len_cons (len_cons (fun _ _ _ _ h => len_nil h)))) ja_nil))))
      (js_seq (js_par3 nin nin nin (ja_cons (j_call (ja_cons (j_var nin) (ja_cons (j_lst (ja_cons j_int (ja_cons j_int (ja_cons j_int (ja_cons j_int ja_nil))))) ja_nil)) (len_cons (len_cons (fun _ _ _ _ h => len_nil h)))) (ja_cons (j_call (ja_cons (j_var nin) (ja_cons (j_lst (ja_cons j_int (ja_cons j_int (ja_cons j_int ja_nil)))) ja_nil)) (len_cons (len_cons (fun _ _ _ _ h => len_nil h)))) (ja_cons (j_call (ja_cons (j_var nin) (ja_cons (j_lst (ja_cons j_int (ja_cons j_int (ja_cons j_int (ja_cons j_int ja_nil))))) ja_nil)) (len_cons (len_cons (fun _ _ _ _ h => len_nil h)))) ja_nil))))
      (js_seq (js_asg (j_lst (ja_cons (j_tup (ja_cons j_str (ja_cons (j_var nin) (ja_cons (j_var nin) (ja_cons (j_var nin) ja_nil))))) (ja_cons (j_tup (ja_cons j_str (ja_cons (j_call (ja_cons (j_var nin) ja_nil) (len_cons (fun _ _ _ _ h => len_nil h))) ja_nil))) (ja_cons (j_tup (ja_cons j_str (ja_cons (j_call (ja_cons (j_var nin) ja_nil) (len_cons (fun _ _ _ _ h => len_nil h))) ja_nil))) (ja_cons (j_tup (ja_cons j_str (ja_cons (j_var nin) ja_nil))) ja_nil))))) (jg_name nin nofun))
      (js_seq (js_asg (j_op upW r_catL (JD.w (j_var nin)) (JD.w (j_lst (ja_cons (j_tup (ja_cons j_str (ja_cons (j_var nin) (ja_cons (j_var nin) (ja_cons (j_var nin) (ja_cons (j_var nin) (ja_cons (j_var nin) ja_nil))))))) (ja_cons (j_tup (ja_cons j_str (ja_cons (j_var nin) (ja_cons (j_var nin) (ja_cons (j_var nin) (ja_cons (j_var nin) (ja_cons (j_var nin) ja_nil))))))) ja_nil))))) (jg_name nin nofun))
      (js_seq (js_asg (j_op upW r_catL (JD.w (j_var nin)) (JD.w (j_lst (ja_cons (j_tup (ja_cons j_str (ja_cons (j_var nin) (ja_cons (j_var nin) (ja_cons (j_var nin) (ja_cons (j_var nin) (ja_cons (j_var nin) ja_nil))))))) (ja_cons (j_tup (ja_cons j_str (ja_cons (j_var nin) (ja_cons (j_var nin) (ja_cons (j_var nin) (ja_cons (j_var nin) ja_nil)))))) ja_nil))))) (jg_name nin nofun))
      (js_seq (js_asg (j_op upW r_catL (JD.w (j_var nin)) (JD.w (j_lst (ja_cons (j_tup (ja_cons j_str (ja_cons (j_var nin) (ja_cons (j_var nin) (ja_cons (j_var nin) (ja_cons (j_var nin) (ja_cons j_str (ja_cons (j_op upD r_add (j_var nin) j_int) ja_nil)))))))) (ja_cons (j_tup (ja_cons j_str (ja_cons (j_var nin) (ja_cons (j_var nin) (ja_cons (j_var nin) (ja_cons j_int (ja_cons (j_var nin) ja_nil))))))) ja_nil))))) (jg_name nin nofun))
      (js_ret (JD.w (j_call (ja_cons (j_var nin) (ja_cons (j_var nin) ja_nil)) (len_cons (len_cons (fun _ _ _ _ h => len_nil h)))))))))))) (fun _ m => absurd m List.not_mem_nil) h⟩)
theorem ok__law_is_name {f : Addr} {fd : FuncData} (F : Fun K "_law_is_name" "_law_is_name" s__law_is_name f fd) (T : TxD mg) : FnOk P w K mg base CX0 1 f fd P__law_is_name (spD ⟨K, κ⟩ 1 L__law_is_name) := by
  exact F.ok sc__law_is_name (fun vs H Q E h => h.1) (fun cdv A outer s H vs Q E hr h => ⟨_, (pss_cons (ps_if (PW.pt (pw_or (pt_not (pt_val (pe_callB call_isi (by rfl) T.n_isinstance (by decide +kernel) (pa_cons (pv 0) (pa_cons (pe_bltn (v := .ty "str") (by rfl) T.n_str (by decide +kernel) rfl) pa_nil))))) (pw_or1 (pt_not (pt_chain op_le op_le pe_int (pe_callB call_len_str (by rfl) T.n_len (by decide +kernel) (pa_cons (pv 0) pa_nil)) pe_int))))) (pss_one (ps_ret pe_bl)) pss_nil)
      (pss_one (ps_ret (pe_callB (cr_all rfl) (by rfl) T.n_all (by decide +kernel) (pa_cons (pe_lc (own := [("_law_sign", 1)]) (g := (gName 1)) (tt := tYes) rfl sc__law_is_name.nd (pi_str (pv 0)) (blkOk_by (N := N__law_is_name) (sc := defScope s__law_is_name) (by decide +kernel)) (fun _ _ _ _ _ => (pg_name (i := 1) sc__law_is_name.nd rfl (Or.inl rfl))) (fun _ _ _ _ _ => pts_nil) (fun _ _ _ _ _ => (pe_cmpR op_in_str (pv 1) pe_str rfl))) pa_nil))))), ok_body (Z := ⟨K, κ⟩) (O := []) (js_seq (js_if (jb_or (jb_not (jb_B (j_cb c_isi (ja_consW (JD.w (j_var nin)) (ja_cons j_ty ja_nil))))) (jb_not (jb_test (j_chain r_le r_le j_int (j_cb c_lenS (ja_cons (j_var nin) ja_nil)) j_int)))) (js_ret (JD.w j_bl)) js_next)
      (js_ret (JD.w (j_cb c_all (ja_consW (JD.w (j_lc (ji_str (j_var nin)) (jg_name nin (fun w e => by cases e; decide)) jb_yes (j_op upD r_inT (j_var nin) j_str))) ja_nil))))) (fun _ m => absurd m List.not_mem_nil) h⟩)
theorem ok__law_is_number {f : Addr} {fd : FuncData} (F : Fun K "_law_is_number" "_law_is_number" s__law_is_number f fd) (T : TxD mg) : FnOk P w K mg base CX0 1 f fd P__law_is_number (spD ⟨K, κ⟩ 1 L__law_is_number) := by
  exact F.ok sc__law_is_number (fun vs H Q E h => h.1) (fun cdv A outer s H vs Q E hr h => ⟨_, (pss_one (ps_ret (pe_and (pe_callB call_isi (by rfl) T.n_isinstance (by decide +kernel) (pa_cons (pv 0) (pa_cons (pe_bltn (v := .ty "int") (by rfl) T.n_int (by decide +kernel) rfl) pa_nil))) (pe_one (pe_not (pe_callB call_isi (by rfl) T.n_isinstance (by decide +kernel) (pa_cons (pv 0) (pa_cons (pe_bltn (v := .ty "bool") (by rfl) T.n_bool (by decide +kernel) rfl) pa_nil)))))))), ok_body (Z := ⟨K, κ⟩) (O := []) (js_ret (JD.w (j_andV (j_cb c_isi (ja_consW (JD.w (j_var nin)) (ja_cons j_ty ja_nil))) (j_notV (j_cb c_isi (ja_consW (JD.w (j_var nin)) (ja_cons j_ty ja_nil))))))) (fun _ m => absurd m List.not_mem_nil) h⟩)
theorem ok__law_fits0 {f : Addr} {fd : FuncData} (F : Fun K "_law_fits" "_law_fits" s__law_fits f fd) (T : TxD mg) (c_law_is_name : Cal P w K mg base 1 "_law_is_name" P__law_is_name (spD ⟨K, κ⟩ 1 L__law_is_name)) (c_law_is_number : Cal P w K mg base 1 "_law_is_number" P__law_is_number (spD ⟨K, κ⟩ 1 L__law_is_number)) (c_law_is_step : Cal P w K mg base 1 "_law_is_step" P__law_is_step (spD ⟨K, κ⟩ 1 LB)) : FnOk P w K mg base CX0 2 f fd P__law_fits (spD ⟨K, κ⟩ 2 L__law_fits0) := by
  obtain ⟨f__law_is_name, fd__law_is_name, G__law_is_name, b__law_is_name, g__law_is_name, k__law_is_name⟩ := c_law_is_name
  obtain ⟨f__law_is_number, fd__law_is_number, G__law_is_number, b__law_is_number, g__law_is_number, k__law_is_number⟩ := c_law_is_number
  obtain ⟨f__law_is_step, fd__law_is_step, G__law_is_step, b__law_is_step, g__law_is_step, k__law_is_step⟩ := c_law_is_step
  exact F.ok sc__law_fits (fun vs H Q E h => h.1) (fun cdv A outer s H vs Q E hr h => ⟨_, (pss_cons (ps_if (pt_cmpR op_eq (pv 0) pe_str (nomark _)) (pss_one (ps_ret (pe_call G__law_is_name (hr.mono (by decide)) rfl g__law_is_name k__law_is_name b__law_is_name .nil pass0 (pa_cons (pv 1) pa_nil)))) pss_nil)
      (pss_cons (ps_if (pt_cmpR op_eq (pv 0) pe_str (nomark _)) (pss_one (ps_ret (pe_call G__law_is_number (hr.mono (by decide)) rfl g__law_is_number k__law_is_number b__law_is_number .nil pass0 (pa_cons (pv 1) pa_nil)))) pss_nil)
      (pss_cons (ps_if (pt_cmpR op_eq (pv 0) pe_str (nomark _)) (pss_one (ps_ret (pe_and (pe_call G__law_is_number (hr.mono (by decide)) rfl g__law_is_number k__law_is_number b__law_is_number .nil pass0 (pa_cons (pv 1) pa_nil)) (pe_one (pe_chain op_le op_le pe_int (pv 1) pe_int))))) pss_nil)
      (pss_cons (ps_if (pt_cmpR op_eq (pv 0) pe_str (nomark _)) (pss_one (ps_ret (pe_call G__law_is_step (hr.mono (by decide)) rfl g__law_is_step k__law_is_step b__law_is_step .nil pass0 (pa_cons (pv 1) pa_nil)))) pss_nil)
      (pss_cons (ps_set (i := 2) sc__law_fits.nd rfl (Or.inl rfl) (pe_dget (lt_units hr.units) (pe_disp (pps_cons pe_str (pe_tup (pa_cons pe_str (pa_cons pe_str pa_nil))) (pps_cons pe_str (pe_tup (pa_cons pe_str (pa_cons pe_str (pa_cons pe_str pa_nil)))) (pps_cons pe_str (pe_tup (pa_cons pe_str (pa_cons pe_str pa_nil))) pps_nil))) rfl rfl (by simp) (by decide)) (pv 0) (fun _ _ => rfl)))
      (pss_one (ps_ret (pe_and (pe_callB call_isi (by rfl) T.n_isinstance (by decide +kernel) (pa_cons (pv 1) (pa_cons (pe_bltn (v := .ty "str") (by rfl) T.n_str (by decide +kernel) rfl) pa_nil))) (pe_one (pe_cmpR (op_inDD (K := K) (hu70 hr)) (pv 1) (pv 2) rfl)))))))))), ok_body (Z := ⟨K, κ⟩) (O := []) (js_seq (js_if (jb_test (j_op upD r_eq (j_var nin) j_str)) (js_ret (JD.w (j_call (ja_cons (j_var nin) ja_nil) (len_cons (fun _ _ _ _ h => len_nil h))))) js_next)
      (js_seq (js_if (jb_test (j_op upD r_eq (j_var nin) j_str)) (js_ret (JD.w (j_call (ja_cons (j_var nin) ja_nil) (len_cons (fun _ _ _ _ h => len_nil h))))) js_next)
      (js_seq (js_if (jb_test (j_op upD r_eq (j_var nin) j_str)) (js_ret (JD.w (j_andV (j_call (ja_cons (j_var nin) ja_nil) (len_cons (fun _ _ _ _ h => len_nil h))) (j_chain r_le r_le j_int (j_var nin) j_int)))) js_next)
      (js_seq (js_if (jb_test (j_op upD r_eq (j_var nin) j_str)) (js_ret (JD.w (j_call (ja_cons (j_var nin) ja_nil) (len_cons (fun _ _ _ _ h => len_nil h))))) js_next)
      (js_seq (js_asg (j_dget (JD.w (j_disp (.cons j_str (j_tup (ja_cons j_str (ja_cons j_str ja_nil))) (.cons j_str (j_tup (ja_cons j_str (ja_cons j_str (ja_cons j_str ja_nil)))) (.cons j_str (j_tup (ja_cons j_str (ja_cons j_str ja_nil))) .nil))))) (j_var nin)) (jg_name nin nofun))
      (js_ret (JD.w (j_andV (j_cb c_isi (ja_consW (JD.w (j_var nin)) (ja_cons j_ty ja_nil))) (j_op upD (r_in (neg := false)) (j_var nin) (JD.w (j_var nin))))))))))) (fun _ m => absurd m List.not_mem_nil) h⟩)
theorem ok__law_has_form0 {f : Addr} {fd : FuncData} (F : Fun K "_law_has_form" "_law_has_form" s__law_has_form f fd) (T : TxD mg) (c_law_fits : Cal P w K mg base 2 "_law_fits" P__law_fits (spD ⟨K, κ⟩ 2 L__law_fits0)) : FnOk P w K mg base CX0 3 f fd P__law_has_form (spD ⟨K, κ⟩ 2 L__law_has_form0) := by
  obtain ⟨f__law_fits, fd__law_fits, G__law_fits, b__law_fits, g__law_fits, k__law_fits⟩ := c_law_fits
  exact F.ok sc__law_has_form (fun vs H Q E h => h.1) (fun cdv A outer s H vs Q E hr h => ⟨_, (pss_cons (ps_if (PW.pt (pw_or (pt_not (pt_val (pe_callB call_isi (by rfl) T.n_isinstance (by decide +kernel) (pa_cons (pv 1) (pa_cons (pe_bltn (v := .ty "tuple") (by rfl) T.n_tuple (by decide +kernel) rfl) pa_nil))))) (pw_or (pt_cmpR (op_eqT (Z := ⟨K, κ⟩) hr.units rfl) (pv 1) (pe_tup pa_nil) (nomark _)) (pw_or (pt_not (pt_val (pe_callB call_isi (by rfl) T.n_isinstance (by decide +kernel) (pa_cons (pe_ix ix_tup (pv 1) pe_int (fun _ _ => rfl)) (pa_cons (pe_bltn (v := .ty "str") (by rfl) T.n_str (by decide +kernel) rfl) pa_nil))))) (pw_or1 (pt_cmp (pc_dnotin (lt_units hr.units) (pe_ix ix_tup (pv 1) pe_int (fun _ _ => rfl)) (pv 0)))))))) (pss_one (ps_ret pe_bl)) pss_nil)
      (pss_cons (ps_if (pt_cmpR op_ne (pe_callB call_len_seq (by rfl) T.n_len (by decide +kernel) (pa_cons (pv 1) pa_nil)) (pe_op op_add (pe_callB call_len_str (by rfl) T.n_len (by decide +kernel) (pa_cons (pe_dget (lt_units hr.units) (pv 0) (pe_ix ix_tup (pv 1) pe_int (fun _ _ => rfl)) (fun _ _ => rfl)) pa_nil)) pe_int) (nomark _)) (pss_one (ps_ret pe_bl)) pss_nil)
      (pss_one (ps_ret (pe_callB (cr_all rfl) (by rfl) T.n_all (by decide +kernel) (pa_cons (pe_lc (own := [("_law_sort", 2), ("_law_part", 3)]) (g := (gTup _ 2 (gCons (gName 2) (gCons (gName 3) gNil)))) (tt := tYes) rfl sc__law_has_form.nd (pi_zipG rfl T.n_zip (pa_cons (pe_dget (lt_units hr.units) (pv 0) (pe_ix ix_tup (pv 1) pe_int (fun _ _ => rfl)) (fun _ _ => rfl)) (pa_cons (pe_slice sl_tupA (pv 1) (po_some pe_int) po_none) pa_nil))) (blkOk_by (N := N__law_has_form) (sc := defScope s__law_has_form) (by decide +kernel)) (fun _ _ _ _ _ => (pg_tup rfl (pgs_cons (pg_name (i := 2) sc__law_has_form.nd rfl (Or.inl rfl)) (pgs_cons (pg_name (i := 3) sc__law_has_form.nd rfl (Or.inl rfl)) pgs_nil)))) (fun _ _ _ _ _ => pts_nil) (fun _ _ _ _ _ => (pe_call G__law_fits (hr.mono (by decide)) rfl g__law_fits k__law_fits b__law_fits .nil pass0 (pa_cons (pv 2) (pa_cons (pv 3) pa_nil))))) pa_nil)))))), ok_body (Z := ⟨K, κ⟩) (O := []) (js_seq (js_if (jb_or (jb_not (jb_B (j_cb c_isi (ja_consW (JD.w (j_var nin)) (ja_cons j_ty ja_nil))))) (jb_or (jb_test (j_op upD r_eqT (j_var nin) (j_tup ja_nil))) (jb_or (jb_not (jb_B (j_cb c_isi (ja_consW (JD.w (j_op upD r_ixT (j_var nin) j_int)) (ja_cons j_ty ja_nil))))) (jb_B (j_dnotin (j_op upD r_ixT (j_var nin) j_int) (JD.w (j_var nin))))))) (js_ret (JD.w j_bl)) js_next)
      (js_seq (js_if (jb_test (j_op upD r_ne (j_cb c_len (ja_consW (JD.w (j_var nin)) ja_nil)) (j_op upD r_add (j_cb c_lenS (ja_cons (j_dget (JD.w (j_var nin)) (j_op upD r_ixT (j_var nin) j_int)) ja_nil)) j_int))) (js_ret (JD.w j_bl)) js_next)
      (js_ret (JD.w (j_cb c_all (ja_consW (JD.w (j_lc (ji_zipG xCo (ja_cons (j_dget (JD.w (j_var nin)) (j_op upD r_ixT (j_var nin) j_int)) (ja_cons (j_slT (j_var nin) (jo_some j_int) jo_none) ja_nil))) (jg_tup (jg_cons (jg_name nin (fun w e => by cases e; decide)) (jg_cons (jg_name nin (fun w e => by cases e; decide)) jg_nil))) jb_yes (j_call (ja_cons (j_var nin) (ja_cons (j_var nin) ja_nil)) (len_cons (len_cons (fun _ _ _ _ h => len_nil h)))))) ja_nil)))))) (fun _ m => absurd m List.not_mem_nil) h⟩)
theorem ok__law_is_step0 {f : Addr} {fd : FuncData} (F : Fun K "_law_is_step" "_law_is_step" s__law_is_step f fd) (c_law_has_form : Cal P w K mg base 3 "_law_has_form" P__law_has_form (spD ⟨K, κ⟩ 2 L__law_has_form0)) : FnOk P w K mg base CX0 4 f fd P__law_is_step (spD ⟨K, κ⟩ 1 L__law_is_step0) := by
  obtain ⟨f__law_has_form, fd__law_has_form, G__law_has_form, b__law_has_form, g__law_has_form, k__law_has_form⟩ := c_law_has_form
  exact F.ok sc__law_is_step (fun vs H Q E h => h.1) (fun cdv A outer s H vs Q E hr h => ⟨_, (pss_cons (ps_set (i := 1) sc__law_is_step.nd rfl (Or.inl rfl) (pe_disp (pps_cons pe_str pe_str (pps_cons pe_str pe_str (pps_cons pe_str pe_str (pps_cons pe_str pe_str (pps_cons pe_str pe_str (pps_cons pe_str pe_str (pps_cons pe_str pe_str pps_nil))))))) rfl rfl (by simp) (by decide)))
      (pss_cons (ps_expr (pe_dupd (pv 1) (pe_disp (pps_cons pe_str pe_str (pps_cons pe_str pe_str (pps_cons pe_str pe_str (pps_cons pe_str pe_str (pps_cons pe_str pe_str pps_nil))))) rfl rfl (by simp) (by decide)) ⟨rfl, rfl, rfl, rfl⟩))
      (pss_one (ps_ret (pe_call G__law_has_form (hr.mono (by decide)) rfl g__law_has_form k__law_has_form b__law_has_form .nil pass0 (pa_cons (pv 1) (pa_cons (pv 0) pa_nil))))))), ok_body (Z := ⟨K, κ⟩) (O := []) (js_dupd nin (jf_disp (.cons j_str j_str (.cons j_str j_str (.cons j_str j_str (.cons j_str j_str (.cons j_str j_str (.cons j_str j_str (.cons j_str j_str .nil)))))))) (jf_disp (.cons j_str j_str (.cons j_str j_str (.cons j_str j_str (.cons j_str j_str (.cons j_str j_str .nil)))))) (js_ret (JD.w (j_call (ja_cons (j_var nin) (ja_cons (j_var nin) ja_nil)) (len_cons (len_cons (fun _ _ _ _ h => len_nil h))))))) (fun _ m => absurd m List.not_mem_nil) h⟩)
theorem ok__law_is_step_bot {f : Addr} {fd : FuncData} (F : Fun K "_law_is_step" "_law_is_step" s__law_is_step f fd) : FnOk P w K mg base CX0 1 f fd P__law_is_step (spD ⟨K, κ⟩ 1 LB) := F.ok sc__law_is_step (fun vs H Q E h => h.1) (fun cdv A outer s H vs Q E hr h => (sp_bot h).elim)
theorem ok__law_fits1 {f : Addr} {fd : FuncData} (F : Fun K "_law_fits" "_law_fits" s__law_fits f fd) (T : TxD mg) (c_law_is_name : Cal P w K mg base 1 "_law_is_name" P__law_is_name (spD ⟨K, κ⟩ 1 L__law_is_name)) (c_law_is_number : Cal P w K mg base 1 "_law_is_number" P__law_is_number (spD ⟨K, κ⟩ 1 L__law_is_number)) (c_law_is_step : Cal P w K mg base 4 "_law_is_step" P__law_is_step (spD ⟨K, κ⟩ 1 L__law_is_step0)) : FnOk P w K mg base CX0 5 f fd P__law_fits (spD ⟨K, κ⟩ 2 L__law_fits1) := by
  obtain ⟨f__law_is_name, fd__law_is_name, G__law_is_name, b__law_is_name, g__law_is_name, k__law_is_name⟩ := c_law_is_name
  obtain ⟨f__law_is_number, fd__law_is_number, G__law_is_number, b__law_is_number, g__law_is_number, k__law_is_number⟩ := c_law_is_number
  obtain ⟨f__law_is_step, fd__law_is_step, G__law_is_step, b__law_is_step, g__law_is_step, k__law_is_step⟩ := c_law_is_step
  exact F.ok sc__law_fits (fun vs H Q E h => h.1) (fun cdv A outer s H vs Q E hr h => ⟨_, (pss_cons (ps_if (pt_cmpR op_eq (pv 0) pe_str (nomark _)) (pss_one (ps_ret (pe_call G__law_is_name (hr.mono (by decide)) rfl g__law_is_name k__law_is_name b__law_is_name .nil pass0 (pa_cons (pv 1) pa_nil)))) pss_nil)
      (pss_cons (ps_if (pt_cmpR op_eq (pv 0) pe_str (nomark _)) (pss_one (ps_ret (pe_call G__law_is_number (hr.mono (by decide)) rfl g__law_is_number k__law_is_number b__law_is_number .nil pass0 (pa_cons (pv 1) pa_nil)))) pss_nil)
      (pss_cons (ps_if (pt_cmpR op_eq (pv 0) pe_str (nomark _)) (pss_one (ps_ret (pe_and (pe_call G__law_is_number (hr.mono (by decide)) rfl g__law_is_number k__law_is_number b__law_is_number .nil pass0 (pa_cons (pv 1) pa_nil)) (pe_one (pe_chain op_le op_le pe_int (pv 1) pe_int))))) pss_nil)
      (pss_cons (ps_if (pt_cmpR op_eq (pv 0) pe_str (nomark _)) (pss_one (ps_ret (pe_call G__law_is_step (hr.mono (by decide)) rfl g__law_is_step k__law_is_step b__law_is_step .nil pass0 (pa_cons (pv 1) pa_nil)))) pss_nil)
      (pss_cons (ps_set (i := 2) sc__law_fits.nd rfl (Or.inl rfl) (pe_dget (lt_units hr.units) (pe_disp (pps_cons pe_str (pe_tup (pa_cons pe_str (pa_cons pe_str pa_nil))) (pps_cons pe_str (pe_tup (pa_cons pe_str (pa_cons pe_str (pa_cons pe_str pa_nil)))) (pps_cons pe_str (pe_tup (pa_cons pe_str (pa_cons pe_str pa_nil))) pps_nil))) rfl rfl (by simp) (by decide)) (pv 0) (fun _ _ => rfl)))
      (pss_one (ps_ret (pe_and (pe_callB call_isi (by rfl) T.n_isinstance (by decide +kernel) (pa_cons (pv 1) (pa_cons (pe_bltn (v := .ty "str") (by rfl) T.n_str (by decide +kernel) rfl) pa_nil))) (pe_one (pe_cmpR (op_inDD (K := K) (hu70 hr)) (pv 1) (pv 2) rfl)))))))))), ok_body (Z := ⟨K, κ⟩) (O := []) (js_seq (js_if (jb_test (j_op upD r_eq (j_var nin) j_str)) (js_ret (JD.w (j_call (ja_cons (j_var nin) ja_nil) (len_cons (fun _ _ _ _ h => len_nil h))))) js_next)
      (js_seq (js_if (jb_test (j_op upD r_eq (j_var nin) j_str)) (js_ret (JD.w (j_call (ja_cons (j_var nin) ja_nil) (len_cons (fun _ _ _ _ h => len_nil h))))) js_next)
      (js_seq (js_if (jb_test (j_op upD r_eq (j_var nin) j_str)) (js_ret (JD.w (j_andV (j_call (ja_cons (j_var nin) ja_nil) (len_cons (fun _ _ _ _ h => len_nil h))) (j_chain r_le r_le j_int (j_var nin) j_int)))) js_next)
      (js_seq (js_if (jb_test (j_op upD r_eq (j_var nin) j_str)) (js_ret (JD.w (j_call (ja_cons (j_var nin) ja_nil) (len_cons (fun _ _ _ _ h => len_nil h))))) js_next)
      (js_seq (js_asg (j_dget (JD.w (j_disp (.cons j_str (j_tup (ja_cons j_str (ja_cons j_str ja_nil))) (.cons j_str (j_tup (ja_cons j_str (ja_cons j_str (ja_cons j_str ja_nil)))) (.cons j_str (j_tup (ja_cons j_str (ja_cons j_str ja_nil))) .nil))))) (j_var nin)) (jg_name nin nofun))
      (js_ret (JD.w (j_andV (j_cb c_isi (ja_consW (JD.w (j_var nin)) (ja_cons j_ty ja_nil))) (j_op upD (r_in (neg := false)) (j_var nin) (JD.w (j_var nin))))))))))) (fun _ m => absurd m List.not_mem_nil) h⟩)
theorem ok__law_has_form1 {f : Addr} {fd : FuncData} (F : Fun K "_law_has_form" "_law_has_form" s__law_has_form f fd) (T : TxD mg) (c_law_fits : Cal P w K mg base 5 "_law_fits" P__law_fits (spD ⟨K, κ⟩ 2 L__law_fits1)) : FnOk P w K mg base CX0 6 f fd P__law_has_form (spD ⟨K, κ⟩ 2 L__law_has_form1) := by
  obtain ⟨f__law_fits, fd__law_fits, G__law_fits, b__law_fits, g__law_fits, k__law_fits⟩ := c_law_fits
  exact F.ok sc__law_has_form (fun vs H Q E h => h.1) (fun cdv A outer s H vs Q E hr h => ⟨_, (pss_cons (ps_if (PW.pt (pw_or (pt_not (pt_val (pe_callB call_isi (by rfl) T.n_isinstance (by decide +kernel) (pa_cons (pv 1) (pa_cons (pe_bltn (v := .ty "tuple") (by rfl) T.n_tuple (by decide +kernel) rfl) pa_nil))))) (pw_or (pt_cmpR (op_eqT (Z := ⟨K, κ⟩) hr.units rfl) (pv 1) (pe_tup pa_nil) (nomark _)) (pw_or (pt_not (pt_val (pe_callB call_isi (by rfl) T.n_isinstance (by decide +kernel) (pa_cons (pe_ix ix_tup (pv 1) pe_int (fun _ _ => rfl)) (pa_cons (pe_bltn (v := .ty "str") (by rfl) T.n_str (by decide +kernel) rfl) pa_nil))))) (pw_or1 (pt_cmp (pc_dnotin (lt_units hr.units) (pe_ix ix_tup (pv 1) pe_int (fun _ _ => rfl)) (pv 0)))))))) (pss_one (ps_ret pe_bl)) pss_nil)
      (pss_cons (ps_if (pt_cmpR op_ne (pe_callB call_len_seq (by rfl) T.n_len (by decide +kernel) (pa_cons (pv 1) pa_nil)) (pe_op op_add (pe_callB call_len_str (by rfl) T.n_len (by decide +kernel) (pa_cons (pe_dget (lt_units hr.units) (pv 0) (pe_ix ix_tup (pv 1) pe_int (fun _ _ => rfl)) (fun _ _ => rfl)) pa_nil)) pe_int) (nomark _)) (pss_one (ps_ret pe_bl)) pss_nil)
      (pss_one (ps_ret (pe_callB (cr_all rfl) (by rfl) T.n_all (by decide +kernel) (pa_cons (pe_lc (own := [("_law_sort", 2), ("_law_part", 3)]) (g := (gTup _ 2 (gCons (gName 2) (gCons (gName 3) gNil)))) (tt := tYes) rfl sc__law_has_form.nd (pi_zipG rfl T.n_zip (pa_cons (pe_dget (lt_units hr.units) (pv 0) (pe_ix ix_tup (pv 1) pe_int (fun _ _ => rfl)) (fun _ _ => rfl)) (pa_cons (pe_slice sl_tupA (pv 1) (po_some pe_int) po_none) pa_nil))) (blkOk_by (N := N__law_has_form) (sc := defScope s__law_has_form) (by decide +kernel)) (fun _ _ _ _ _ => (pg_tup rfl (pgs_cons (pg_name (i := 2) sc__law_has_form.nd rfl (Or.inl rfl)) (pgs_cons (pg_name (i := 3) sc__law_has_form.nd rfl (Or.inl rfl)) pgs_nil)))) (fun _ _ _ _ _ => pts_nil) (fun _ _ _ _ _ => (pe_call G__law_fits (hr.mono (by decide)) rfl g__law_fits k__law_fits b__law_fits .nil pass0 (pa_cons (pv 2) (pa_cons (pv 3) pa_nil))))) pa_nil)))))), ok_body (Z := ⟨K, κ⟩) (O := []) (js_seq (js_if (jb_or (jb_not (jb_B (j_cb c_isi (ja_consW (JD.w (j_var nin)) (ja_cons j_ty ja_nil))))) (jb_or (jb_test (j_op upD r_eqT (j_var nin) (j_tup ja_nil))) (jb_or (jb_not (jb_B (j_cb c_isi (ja_consW (JD.w (j_op upD r_ixT (j_var nin) j_int)) (ja_cons j_ty ja_nil))))) (jb_B (j_dnotin (j_op upD r_ixT (j_var nin) j_int) (JD.w (j_var nin))))))) (js_ret (JD.w j_bl)) js_next)
      (js_seq (js_if (jb_test (j_op upD r_ne (j_cb c_len (ja_consW (JD.w (j_var nin)) ja_nil)) (j_op upD r_add (j_cb c_lenS (ja_cons (j_dget (JD.w (j_var nin)) (j_op upD r_ixT (j_var nin) j_int)) ja_nil)) j_int))) (js_ret (JD.w j_bl)) js_next)
      (js_ret (JD.w (j_cb c_all (ja_consW (JD.w (j_lc (ji_zipG xCo (ja_cons (j_dget (JD.w (j_var nin)) (j_op upD r_ixT (j_var nin) j_int)) (ja_cons (j_slT (j_var nin) (jo_some j_int) jo_none) ja_nil))) (jg_tup (jg_cons (jg_name nin (fun w e => by cases e; decide)) (jg_cons (jg_name nin (fun w e => by cases e; decide)) jg_nil))) jb_yes (j_call (ja_cons (j_var nin) (ja_cons (j_var nin) ja_nil)) (len_cons (len_cons (fun _ _ _ _ h => len_nil h)))))) ja_nil)))))) (fun _ m => absurd m List.not_mem_nil) h⟩)
theorem ok__law_is_event {f : Addr} {fd : FuncData} (F : Fun K "_law_is_event" "_law_is_event" s__law_is_event f fd) (c_law_has_form : Cal P w K mg base 6 "_law_has_form" P__law_has_form (spD ⟨K, κ⟩ 2 L__law_has_form1)) : FnOk P w K mg base CX0 7 f fd P__law_is_event (spD ⟨K, κ⟩ 1 L__law_is_event) := by
  obtain ⟨f__law_has_form, fd__law_has_form, G__law_has_form, b__law_has_form, g__law_has_form, k__law_has_form⟩ := c_law_has_form
  exact F.ok sc__law_is_event (fun vs H Q E h => h.1) (fun cdv A outer s H vs Q E hr h => ⟨_, (pss_cons (ps_set (i := 1) sc__law_is_event.nd rfl (Or.inl rfl) (pe_disp (pps_cons pe_str pe_str (pps_cons pe_str pe_str (pps_cons pe_str pe_str (pps_cons pe_str pe_str (pps_cons pe_str pe_str (pps_cons pe_str pe_str (pps_cons pe_str pe_str pps_nil))))))) rfl rfl (by simp) (by decide)))
      (pss_cons (ps_expr (pe_dupd (pv 1) (pe_disp (pps_cons pe_str pe_str (pps_cons pe_str pe_str (pps_cons pe_str pe_str pps_nil))) rfl rfl (by simp) (by decide)) ⟨rfl, rfl, rfl, rfl⟩))
      (pss_one (ps_ret (pe_call G__law_has_form (hr.mono (by decide)) rfl g__law_has_form k__law_has_form b__law_has_form .nil pass0 (pa_cons (pv 1) (pa_cons (pv 0) pa_nil))))))), ok_body (Z := ⟨K, κ⟩) (O := []) (js_dupd nin (jf_disp (.cons j_str j_str (.cons j_str j_str (.cons j_str j_str (.cons j_str j_str (.cons j_str j_str (.cons j_str j_str (.cons j_str j_str .nil)))))))) (jf_disp (.cons j_str j_str (.cons j_str j_str (.cons j_str j_str .nil)))) (js_ret (JD.w (j_call (ja_cons (j_var nin) (ja_cons (j_var nin) ja_nil)) (len_cons (len_cons (fun _ _ _ _ h => len_nil h))))))) (fun _ m => absurd m List.not_mem_nil) h⟩)
theorem ok__law_odd {f : Addr} {fd : FuncData} (F : Fun K "_law_odd" "_law_odd" s__law_odd f fd) (T : TxD mg) (c_law_of : Cal P w K mg base 2 "_law_of" P__law_of (spD ⟨K, κ⟩ 2 L__law_of)) : FnOk P w K mg base CX0 3 f fd P__law_odd (spD ⟨K, κ⟩ 2 L__law_odd) := by
  obtain ⟨f__law_of, fd__law_of, G__law_of, b__law_of, g__law_of, k__law_of⟩ := c_law_of
  exact F.ok sc__law_odd (fun vs H Q E h => h.1) (fun cdv A outer s H vs Q E hr h => ⟨_, (pss_cons (ps_set (i := 2) sc__law_odd.nd rfl (Or.inl rfl) (pe_lst (pa_cons pe_non (pa_cons pe_bl (pa_cons pe_bl (pa_cons pe_int (pa_cons (pe_un un_neg pe_int) (pa_cons pe_str (pa_cons pe_str (pa_cons pe_str (pa_cons pe_str (pa_cons pe_str (pa_cons pe_str (pa_cons pe_str (pa_cons (pe_tup pa_nil) (pa_cons (pe_lst pa_nil) (pa_cons pe_dnewK (pa_cons (pe_op op_pow pe_int pe_int) (pa_cons pe_int pa_nil)))))))))))))))))))
      (pss_cons (ps_if (pt_val (pe_callB call_isi (by rfl) T.n_isinstance (by decide +kernel) (pa_cons (pv 1) (pa_cons (pe_bltn (v := .ty "tuple") (by rfl) T.n_tuple (by decide +kernel) rfl) pa_nil)))) (pss_one (ps_set (i := 2) sc__law_odd.nd rfl (Or.inl rfl) (pe_op op_cat (pv 2) (pe_op op_rep (pe_lst (pa_cons (pe_callTy call_list_of (by rfl) T.n_list (by decide +kernel) (pa_cons (pv 1) pa_nil)) (pa_cons (pe_slice sl_tupA (pv 1) (po_some pe_int) po_none) (pa_cons (pe_slice sl_tupA (pv 1) po_none (po_some (pe_un un_neg pe_int))) (pa_cons (pe_op op_catA (pv 1) (pe_slice sl_tupA (pv 1) po_none (po_some pe_int))) (pa_cons (pe_tup (pa_cons (pv 1) pa_nil)) pa_nil)))))) pe_int)))) pss_nil)
      (pss_one (ps_ret (pe_call G__law_of (hr.mono (by decide)) rfl g__law_of k__law_of b__law_of .nil pass0 (pa_cons (pv 0) (pa_cons (pv 2) pa_nil))))))), ok_body (Z := ⟨K, κ⟩) (O := []) (js_seq (js_asg (j_lst (ja_cons j_non (ja_cons j_bl (ja_cons j_bl (ja_cons j_int (ja_cons (j_un u_neg j_int) (ja_cons j_str (ja_cons j_str (ja_cons j_str (ja_cons j_str (ja_cons j_str (ja_cons j_str (ja_cons j_str (ja_cons (j_tup ja_nil) (ja_cons (j_lst ja_nil) (ja_cons (JF.d jf_dic0) (ja_cons (j_op upD r_pow j_int j_int) (ja_cons j_int ja_nil)))))))))))))))))) (jg_name nin nofun))
      (js_seq (js_if (jb_B (j_cb c_isi (ja_consW (JD.w (j_var nin)) (ja_cons j_ty ja_nil)))) (js_asg (j_op upW r_catL (JD.w (j_var nin)) (JD.w (j_op upD r_repL (j_lst (ja_cons (j_cb c_list (ja_consW (JD.w (j_var nin)) ja_nil)) (ja_cons (j_slT (j_var nin) (jo_some j_int) jo_none) (ja_cons (j_slT (j_var nin) jo_none (jo_some (j_un u_neg j_int))) (ja_cons (j_op upD r_catT (j_var nin) (j_slT (j_var nin) jo_none (jo_some j_int))) (ja_cons (j_tup (ja_cons (j_var nin) ja_nil)) ja_nil)))))) j_int))) (jg_name nin nofun)) js_next)
      (js_ret (JD.w (j_call (ja_cons (j_var nin) (ja_cons (j_var nin) ja_nil)) (len_cons (len_cons (fun _ _ _ _ h => len_nil h)))))))) (fun _ m => absurd m List.not_mem_nil) h⟩)
theorem ok__law_bent0 {f : Addr} {fd : FuncData} (F : Fun K "_law_bent" "_law_bent" s__law_bent f fd) (T : TxD mg) (c_law_take : Cal P w K mg base 1 "_law_take" P__law_take (spD ⟨K, κ⟩ 2 L__law_take)) (c_law_odd : Cal P w K mg base 3 "_law_odd" P__law_odd (spD ⟨K, κ⟩ 2 L__law_odd)) (c_law_bent : Cal P w K mg base 1 "_law_bent" P__law_bent (spD ⟨K, κ⟩ 3 LB)) : FnOk P w K mg base CX0 4 f fd P__law_bent (spD ⟨K, κ⟩ 3 L__law_bent0) := by
  obtain ⟨f__law_take, fd__law_take, G__law_take, b__law_take, g__law_take, k__law_take⟩ := c_law_take
  obtain ⟨f__law_odd, fd__law_odd, G__law_odd, b__law_odd, g__law_odd, k__law_odd⟩ := c_law_odd
  obtain ⟨f__law_bent, fd__law_bent, G__law_bent, b__law_bent, g__law_bent, k__law_bent⟩ := c_law_bent
  exact F.ok sc__law_bent (fun vs H Q E h => h.1) (fun cdv A outer s H vs Q E hr h => ⟨_, (pss_cons (ps_if (PW.pt (pw_or (pt_cmpR op_eq (pv 2) pe_int (nomark _)) (pw_or (pt_not (pt_val (pe_callB call_isi (by rfl) T.n_isinstance (by decide +kernel) (pa_cons (pv 1) (pa_cons (pe_bltn (v := .ty "tuple") (by rfl) T.n_tuple (by decide +kernel) rfl) pa_nil))))) (pw_or (pt_cmpR (op_eqT (Z := ⟨K, κ⟩) hr.units rfl) (pv 1) (pe_tup pa_nil) (nomark _)) (pw_or1 (pt_cmpR op_eq (pe_call G__law_take (hr.mono (by decide)) rfl g__law_take k__law_take b__law_take .nil pass0 (pa_cons (pv 0) (pa_cons pe_int pa_nil))) pe_int (nomark _))))))) (pss_one (ps_ret (pe_call G__law_odd (hr.mono (by decide)) rfl g__law_odd k__law_odd b__law_odd .nil pass0 (pa_cons (pv 0) (pa_cons (pv 1) pa_nil))))) pss_nil)
      (pss_cons (ps_set (i := 3) sc__law_bent.nd rfl (Or.inl rfl) (pe_call G__law_take (hr.mono (by decide)) rfl g__law_take k__law_take b__law_take .nil pass0 (pa_cons (pv 0) (pa_cons (pe_callB call_len_seq (by rfl) T.n_len (by decide +kernel) (pa_cons (pv 1) pa_nil)) pa_nil))))
      (pss_one (ps_ret (pe_op op_catA (pe_op op_catA (pe_slice sl_tupA (pv 1) po_none (po_some (pv 3))) (pe_tup (pa_cons (pe_call G__law_bent (hr.mono (by decide)) rfl g__law_bent k__law_bent b__law_bent .nil pass0 (pa_cons (pv 0) (pa_cons (pe_ix ix_tup (pv 1) (pv 3) (fun _ _ => rfl)) (pa_cons (pe_op op_sub (pv 2) pe_int) pa_nil)))) pa_nil))) (pe_slice sl_tupA (pv 1) (po_some (pe_op op_add (pv 3) pe_int)) po_none)))))), ok_body (Z := ⟨K, κ⟩) (O := []) (js_seq (js_if (jb_or (jb_test (j_op upD r_eq (j_var nin) j_int)) (jb_or (jb_not (jb_B (j_cb c_isi (ja_consW (JD.w (j_var nin)) (ja_cons j_ty ja_nil))))) (jb_or (jb_test (j_op upD r_eqT (j_var nin) (j_tup ja_nil))) (jb_test (j_op upD r_eq (j_call (ja_cons (j_var nin) (ja_cons j_int ja_nil)) (len_cons (len_cons (fun _ _ _ _ h => len_nil h)))) j_int))))) (js_ret (JD.w (j_call (ja_cons (j_var nin) (ja_cons (j_var nin) ja_nil)) (len_cons (len_cons (fun _ _ _ _ h => len_nil h)))))) js_next)
      (js_seq (js_asg (j_call (ja_cons (j_var nin) (ja_cons (j_cb c_len (ja_consW (JD.w (j_var nin)) ja_nil)) ja_nil)) (len_cons (len_cons (fun _ _ _ _ h => len_nil h)))) (jg_name nin nofun))
      (js_ret (JD.w (j_op upD r_catT (j_op upD r_catT (j_slT (j_var nin) jo_none (jo_some (j_var nin))) (j_tup (ja_cons (j_call (ja_cons (j_var nin) (ja_cons (j_op upD r_ixT (j_var nin) (j_var nin)) (ja_cons (j_op upD r_sub (j_var nin) j_int) ja_nil))) (len_cons (len_cons (len_cons (fun _ _ _ _ h => len_nil h))))) ja_nil))) (j_slT (j_var nin) (jo_some (j_op upD r_add (j_var nin) j_int)) jo_none)))))) (fun _ m => absurd m List.not_mem_nil) h⟩)
theorem ok__law_bent_bot {f : Addr} {fd : FuncData} (F : Fun K "_law_bent" "_law_bent" s__law_bent f fd) : FnOk P w K mg base CX0 1 f fd P__law_bent (spD ⟨K, κ⟩ 3 LB) := F.ok sc__law_bent (fun vs H Q E h => h.1) (fun cdv A outer s H vs Q E hr h => (sp_bot h).elim)
theorem ok__law_bent1 {f : Addr} {fd : FuncData} (F : Fun K "_law_bent" "_law_bent" s__law_bent f fd) (T : TxD mg) (c_law_take : Cal P w K mg base 1 "_law_take" P__law_take (spD ⟨K, κ⟩ 2 L__law_take)) (c_law_odd : Cal P w K mg base 3 "_law_odd" P__law_odd (spD ⟨K, κ⟩ 2 L__law_odd)) (c_law_bent : Cal P w K mg base 4 "_law_bent" P__law_bent (spD ⟨K, κ⟩ 3 L__law_bent0)) : FnOk P w K mg base CX0 5 f fd P__law_bent (spD ⟨K, κ⟩ 3 L__law_bent1) := by
  obtain ⟨f__law_take, fd__law_take, G__law_take, b__law_take, g__law_take, k__law_take⟩ := c_law_take
  obtain ⟨f__law_odd, fd__law_odd, G__law_odd, b__law_odd, g__law_odd, k__law_odd⟩ := c_law_odd
  obtain ⟨f__law_bent, fd__law_bent, G__law_bent, b__law_bent, g__law_bent, k__law_bent⟩ := c_law_bent
  exact F.ok sc__law_bent (fun vs H Q E h => h.1) (fun cdv A outer s H vs Q E hr h => ⟨_, (pss_cons (ps_if (PW.pt (pw_or (pt_cmpR op_eq (pv 2) pe_int (nomark _)) (pw_or (pt_not (pt_val (pe_callB call_isi (by rfl) T.n_isinstance (by decide +kernel) (pa_cons (pv 1) (pa_cons (pe_bltn (v := .ty "tuple") (by rfl) T.n_tuple (by decide +kernel) rfl) pa_nil))))) (pw_or (pt_cmpR (op_eqT (Z := ⟨K, κ⟩) hr.units rfl) (pv 1) (pe_tup pa_nil) (nomark _)) (pw_or1 (pt_cmpR op_eq (pe_call G__law_take (hr.mono (by decide)) rfl g__law_take k__law_take b__law_take .nil pass0 (pa_cons (pv 0) (pa_cons pe_int pa_nil))) pe_int (nomark _))))))) (pss_one (ps_ret (pe_call G__law_odd (hr.mono (by decide)) rfl g__law_odd k__law_odd b__law_odd .nil pass0 (pa_cons (pv 0) (pa_cons (pv 1) pa_nil))))) pss_nil)
      (pss_cons (ps_set (i := 3) sc__law_bent.nd rfl (Or.inl rfl) (pe_call G__law_take (hr.mono (by decide)) rfl g__law_take k__law_take b__law_take .nil pass0 (pa_cons (pv 0) (pa_cons (pe_callB call_len_seq (by rfl) T.n_len (by decide +kernel) (pa_cons (pv 1) pa_nil)) pa_nil))))
      (pss_one (ps_ret (pe_op op_catA (pe_op op_catA (pe_slice sl_tupA (pv 1) po_none (po_some (pv 3))) (pe_tup (pa_cons (pe_call G__law_bent (hr.mono (by decide)) rfl g__law_bent k__law_bent b__law_bent .nil pass0 (pa_cons (pv 0) (pa_cons (pe_ix ix_tup (pv 1) (pv 3) (fun _ _ => rfl)) (pa_cons (pe_op op_sub (pv 2) pe_int) pa_nil)))) pa_nil))) (pe_slice sl_tupA (pv 1) (po_some (pe_op op_add (pv 3) pe_int)) po_none)))))), ok_body (Z := ⟨K, κ⟩) (O := []) (js_seq (js_if (jb_or (jb_test (j_op upD r_eq (j_var nin) j_int)) (jb_or (jb_not (jb_B (j_cb c_isi (ja_consW (JD.w (j_var nin)) (ja_cons j_ty ja_nil))))) (jb_or (jb_test (j_op upD r_eqT (j_var nin) (j_tup ja_nil))) (jb_test (j_op upD r_eq (j_call (ja_cons (j_var nin) (ja_cons j_int ja_nil)) (len_cons (len_cons (fun _ _ _ _ h => len_nil h)))) j_int))))) (js_ret (JD.w (j_call (ja_cons (j_var nin) (ja_cons (j_var nin) ja_nil)) (len_cons (len_cons (fun _ _ _ _ h => len_nil h)))))) js_next)
      (js_seq (js_asg (j_call (ja_cons (j_var nin) (ja_cons (j_cb c_len (ja_consW (JD.w (j_var nin)) ja_nil)) ja_nil)) (len_cons (len_cons (fun _ _ _ _ h => len_nil h)))) (jg_name nin nofun))
      (js_ret (JD.w (j_op upD r_catT (j_op upD r_catT (j_slT (j_var nin) jo_none (jo_some (j_var nin))) (j_tup (ja_cons (j_call (ja_cons (j_var nin) (ja_cons (j_op upD r_ixT (j_var nin) (j_var nin)) (ja_cons (j_op upD r_sub (j_var nin) j_int) ja_nil))) (len_cons (len_cons (len_cons (fun _ _ _ _ h => len_nil h))))) ja_nil))) (j_slT (j_var nin) (jo_some (j_op upD r_add (j_var nin) j_int)) jo_none)))))) (fun _ m => absurd m List.not_mem_nil) h⟩)
theorem ok__law_bent2 {f : Addr} {fd : FuncData} (F : Fun K "_law_bent" "_law_bent" s__law_bent f fd) (T : TxD mg) (c_law_take : Cal P w K mg base 1 "_law_take" P__law_take (spD ⟨K, κ⟩ 2 L__law_take)) (c_law_odd : Cal P w K mg base 3 "_law_odd" P__law_odd (spD ⟨K, κ⟩ 2 L__law_odd)) (c_law_bent : Cal P w K mg base 5 "_law_bent" P__law_bent (spD ⟨K, κ⟩ 3 L__law_bent1)) : FnOk P w K mg base CX0 6 f fd P__law_bent (spD ⟨K, κ⟩ 3 L__law_bent2) := by
  obtain ⟨f__law_take, fd__law_take, G__law_take, b__law_take, g__law_take, k__law_take⟩ := c_law_take
  obtain ⟨f__law_odd, fd__law_odd, G__law_odd, b__law_odd, g__law_odd, k__law_odd⟩ := c_law_odd
  obtain ⟨f__law_bent, fd__law_bent, G__law_bent, b__law_bent, g__law_bent, k__law_bent⟩ := c_law_bent
  exact F.ok sc__law_bent (fun vs H Q E h => h.1) (fun cdv A outer s H vs Q E hr h => ⟨_, (pss_cons (ps_if (PW.pt (pw_or (pt_cmpR op_eq (pv 2) pe_int (nomark _)) (pw_or (pt_not (pt_val (pe_callB call_isi (by rfl) T.n_isinstance (by decide +kernel) (pa_cons (pv 1) (pa_cons (pe_bltn (v := .ty "tuple") (by rfl) T.n_tuple (by decide +kernel) rfl) pa_nil))))) (pw_or (pt_cmpR (op_eqT (Z := ⟨K, κ⟩) hr.units rfl) (pv 1) (pe_tup pa_nil) (nomark _)) (pw_or1 (pt_cmpR op_eq (pe_call G__law_take (hr.mono (by decide)) rfl g__law_take k__law_take b__law_take .nil pass0 (pa_cons (pv 0) (pa_cons pe_int pa_nil))) pe_int (nomark _))))))) (pss_one (ps_ret (pe_call G__law_odd (hr.mono (by decide)) rfl g__law_odd k__law_odd b__law_odd .nil pass0 (pa_cons (pv 0) (pa_cons (pv 1) pa_nil))))) pss_nil)
      (pss_cons (ps_set (i := 3) sc__law_bent.nd rfl (Or.inl rfl) (pe_call G__law_take (hr.mono (by decide)) rfl g__law_take k__law_take b__law_take .nil pass0 (pa_cons (pv 0) (pa_cons (pe_callB call_len_seq (by rfl) T.n_len (by decide +kernel) (pa_cons (pv 1) pa_nil)) pa_nil))))
      (pss_one (ps_ret (pe_op op_catA (pe_op op_catA (pe_slice sl_tupA (pv 1) po_none (po_some (pv 3))) (pe_tup (pa_cons (pe_call G__law_bent (hr.mono (by decide)) rfl g__law_bent k__law_bent b__law_bent .nil pass0 (pa_cons (pv 0) (pa_cons (pe_ix ix_tup (pv 1) (pv 3) (fun _ _ => rfl)) (pa_cons (pe_op op_sub (pv 2) pe_int) pa_nil)))) pa_nil))) (pe_slice sl_tupA (pv 1) (po_some (pe_op op_add (pv 3) pe_int)) po_none)))))), ok_body (Z := ⟨K, κ⟩) (O := []) (js_seq (js_if (jb_or (jb_test (j_op upD r_eq (j_var nin) j_int)) (jb_or (jb_not (jb_B (j_cb c_isi (ja_consW (JD.w (j_var nin)) (ja_cons j_ty ja_nil))))) (jb_or (jb_test (j_op upD r_eqT (j_var nin) (j_tup ja_nil))) (jb_test (j_op upD r_eq (j_call (ja_cons (j_var nin) (ja_cons j_int ja_nil)) (len_cons (len_cons (fun _ _ _ _ h => len_nil h)))) j_int))))) (js_ret (JD.w (j_call (ja_cons (j_var nin) (ja_cons (j_var nin) ja_nil)) (len_cons (len_cons (fun _ _ _ _ h => len_nil h)))))) js_next)
      (js_seq (js_asg (j_call (ja_cons (j_var nin) (ja_cons (j_cb c_len (ja_consW (JD.w (j_var nin)) ja_nil)) ja_nil)) (len_cons (len_cons (fun _ _ _ _ h => len_nil h)))) (jg_name nin nofun))
      (js_ret (JD.w (j_op upD r_catT (j_op upD r_catT (j_slT (j_var nin) jo_none (jo_some (j_var nin))) (j_tup (ja_cons (j_call (ja_cons (j_var nin) (ja_cons (j_op upD r_ixT (j_var nin) (j_var nin)) (ja_cons (j_op upD r_sub (j_var nin) j_int) ja_nil))) (len_cons (len_cons (len_cons (fun _ _ _ _ h => len_nil h))))) ja_nil))) (j_slT (j_var nin) (jo_some (j_op upD r_add (j_var nin) j_int)) jo_none)))))) (fun _ m => absurd m List.not_mem_nil) h⟩)
theorem ok__law_bent3 {f : Addr} {fd : FuncData} (F : Fun K "_law_bent" "_law_bent" s__law_bent f fd) (T : TxD mg) (c_law_take : Cal P w K mg base 1 "_law_take" P__law_take (spD ⟨K, κ⟩ 2 L__law_take)) (c_law_odd : Cal P w K mg base 3 "_law_odd" P__law_odd (spD ⟨K, κ⟩ 2 L__law_odd)) (c_law_bent : Cal P w K mg base 6 "_law_bent" P__law_bent (spD ⟨K, κ⟩ 3 L__law_bent2)) : FnOk P w K mg base CX0 7 f fd P__law_bent (spD ⟨K, κ⟩ 3 L__law_bent3) := by
  obtain ⟨f__law_take, fd__law_take, G__law_take, b__law_take, g__law_take, k__law_take⟩ := c_law_take
  obtain ⟨f__law_odd, fd__law_odd, G__law_odd, b__law_odd, g__law_odd, k__law_odd⟩ := c_law_odd
  obtain ⟨f__law_bent, fd__law_bent, G__law_bent, b__law_bent, g__law_bent, k__law_bent⟩ := c_law_bent
  exact F.ok sc__law_bent (fun vs H Q E h => h.1) (fun cdv A outer s H vs Q E hr h => ⟨_, (pss_cons (ps_if (PW.pt (pw_or (pt_cmpR op_eq (pv 2) pe_int (nomark _)) (pw_or (pt_not (pt_val (pe_callB call_isi (by rfl) T.n_isinstance (by decide +kernel) (pa_cons (pv 1) (pa_cons (pe_bltn (v := .ty "tuple") (by rfl) T.n_tuple (by decide +kernel) rfl) pa_nil))))) (pw_or (pt_cmpR (op_eqT (Z := ⟨K, κ⟩) hr.units rfl) (pv 1) (pe_tup pa_nil) (nomark _)) (pw_or1 (pt_cmpR op_eq (pe_call G__law_take (hr.mono (by decide)) rfl g__law_take k__law_take b__law_take .nil pass0 (pa_cons (pv 0) (pa_cons pe_int pa_nil))) pe_int (nomark _))))))) (pss_one (ps_ret (pe_call G__law_odd (hr.mono (by decide)) rfl g__law_odd k__law_odd b__law_odd .nil pass0 (pa_cons (pv 0) (pa_cons (pv 1) pa_nil))))) pss_nil)
      (pss_cons (ps_set (i := 3) sc__law_bent.nd rfl (Or.inl rfl) (pe_call G__law_take (hr.mono (by decide)) rfl g__law_take k__law_take b__law_take .nil pass0 (pa_cons (pv 0) (pa_cons (pe_callB call_len_seq (by rfl) T.n_len (by decide +kernel) (pa_cons (pv 1) pa_nil)) pa_nil))))
      (pss_one (ps_ret (pe_op op_catA (pe_op op_catA (pe_slice sl_tupA (pv 1) po_none (po_some (pv 3))) (pe_tup (pa_cons (pe_call G__law_bent (hr.mono (by decide)) rfl g__law_bent k__law_bent b__law_bent .nil pass0 (pa_cons (pv 0) (pa_cons (pe_ix ix_tup (pv 1) (pv 3) (fun _ _ => rfl)) (pa_cons (pe_op op_sub (pv 2) pe_int) pa_nil)))) pa_nil))) (pe_slice sl_tupA (pv 1) (po_some (pe_op op_add (pv 3) pe_int)) po_none)))))), ok_body (Z := ⟨K, κ⟩) (O := []) (js_seq (js_if (jb_or (jb_test (j_op upD r_eq (j_var nin) j_int)) (jb_or (jb_not (jb_B (j_cb c_isi (ja_consW (JD.w (j_var nin)) (ja_cons j_ty ja_nil))))) (jb_or (jb_test (j_op upD r_eqT (j_var nin) (j_tup ja_nil))) (jb_test (j_op upD r_eq (j_call (ja_cons (j_var nin) (ja_cons j_int ja_nil)) (len_cons (len_cons (fun _ _ _ _ h => len_nil h)))) j_int))))) (js_ret (JD.w (j_call (ja_cons (j_var nin) (ja_cons (j_var nin) ja_nil)) (len_cons (len_cons (fun _ _ _ _ h => len_nil h)))))) js_next)
      (js_seq (js_asg (j_call (ja_cons (j_var nin) (ja_cons (j_cb c_len (ja_consW (JD.w (j_var nin)) ja_nil)) ja_nil)) (len_cons (len_cons (fun _ _ _ _ h => len_nil h)))) (jg_name nin nofun))
      (js_ret (JD.w (j_op upD r_catT (j_op upD r_catT (j_slT (j_var nin) jo_none (jo_some (j_var nin))) (j_tup (ja_cons (j_call (ja_cons (j_var nin) (ja_cons (j_op upD r_ixT (j_var nin) (j_var nin)) (ja_cons (j_op upD r_sub (j_var nin) j_int) ja_nil))) (len_cons (len_cons (len_cons (fun _ _ _ _ h => len_nil h))))) ja_nil))) (j_slT (j_var nin) (jo_some (j_op upD r_add (j_var nin) j_int)) jo_none)))))) (fun _ m => absurd m List.not_mem_nil) h⟩)
theorem ok__law_bent4 {f : Addr} {fd : FuncData} (F : Fun K "_law_bent" "_law_bent" s__law_bent f fd) (T : TxD mg) (c_law_take : Cal P w K mg base 1 "_law_take" P__law_take (spD ⟨K, κ⟩ 2 L__law_take)) (c_law_odd : Cal P w K mg base 3 "_law_odd" P__law_odd (spD ⟨K, κ⟩ 2 L__law_odd)) (c_law_bent : Cal P w K mg base 7 "_law_bent" P__law_bent (spD ⟨K, κ⟩ 3 L__law_bent3)) : FnOk P w K mg base CX0 8 f fd P__law_bent (spD ⟨K, κ⟩ 3 L__law_bent4) := by
  obtain ⟨f__law_take, fd__law_take, G__law_take, b__law_take, g__law_take, k__law_take⟩ := c_law_take
  obtain ⟨f__law_odd, fd__law_odd, G__law_odd, b__law_odd, g__law_odd, k__law_odd⟩ := c_law_odd
  obtain ⟨f__law_bent, fd__law_bent, G__law_bent, b__law_bent, g__law_bent, k__law_bent⟩ := c_law_bent
  exact F.ok sc__law_bent (fun vs H Q E h => h.1) (fun cdv A outer s H vs Q E hr h => ⟨_, (pss_cons (ps_if (PW.pt (pw_or (pt_cmpR op_eq (pv 2) pe_int (nomark _)) (pw_or (pt_not (pt_val (pe_callB call_isi (by rfl) T.n_isinstance (by decide +kernel) (pa_cons (pv 1) (pa_cons (pe_bltn (v := .ty "tuple") (by rfl) T.n_tuple (by decide +kernel) rfl) pa_nil))))) (pw_or (pt_cmpR (op_eqT (Z := ⟨K, κ⟩) hr.units rfl) (pv 1) (pe_tup pa_nil) (nomark _)) (pw_or1 (pt_cmpR op_eq (pe_call G__law_take (hr.mono (by decide)) rfl g__law_take k__law_take b__law_take .nil pass0 (pa_cons (pv 0) (pa_cons pe_int pa_nil))) pe_int (nomark _))))))) (pss_one (ps_ret (pe_call G__law_odd (hr.mono (by decide)) rfl g__law_odd k__law_odd b__law_odd .nil pass0 (pa_cons (pv 0) (pa_cons (pv 1) pa_nil))))) pss_nil)
      (pss_cons (ps_set (i := 3) sc__law_bent.nd rfl (Or.inl rfl) (pe_call G__law_take (hr.mono (by decide)) rfl g__law_take k__law_take b__law_take .nil pass0 (pa_cons (pv 0) (pa_cons (pe_callB call_len_seq (by rfl) T.n_len (by decide +kernel) (pa_cons (pv 1) pa_nil)) pa_nil))))
      (pss_one (ps_ret (pe_op op_catA (pe_op op_catA (pe_slice sl_tupA (pv 1) po_none (po_some (pv 3))) (pe_tup (pa_cons (pe_call G__law_bent (hr.mono (by decide)) rfl g__law_bent k__law_bent b__law_bent .nil pass0 (pa_cons (pv 0) (pa_cons (pe_ix ix_tup (pv 1) (pv 3) (fun _ _ => rfl)) (pa_cons (pe_op op_sub (pv 2) pe_int) pa_nil)))) pa_nil))) (pe_slice sl_tupA (pv 1) (po_some (pe_op op_add (pv 3) pe_int)) po_none)))))), ok_body (Z := ⟨K, κ⟩) (O := []) (js_seq (js_if (jb_or (jb_test (j_op upD r_eq (j_var nin) j_int)) (jb_or (jb_not (jb_B (j_cb c_isi (ja_consW (JD.w (j_var nin)) (ja_cons j_ty ja_nil))))) (jb_or (jb_test (j_op upD r_eqT (j_var nin) (j_tup ja_nil))) (jb_test (j_op upD r_eq (j_call (ja_cons (j_var nin) (ja_cons j_int ja_nil)) (len_cons (len_cons (fun _ _ _ _ h => len_nil h)))) j_int))))) (js_ret (JD.w (j_call (ja_cons (j_var nin) (ja_cons (j_var nin) ja_nil)) (len_cons (len_cons (fun _ _ _ _ h => len_nil h)))))) js_next)
      (js_seq (js_asg (j_call (ja_cons (j_var nin) (ja_cons (j_cb c_len (ja_consW (JD.w (j_var nin)) ja_nil)) ja_nil)) (len_cons (len_cons (fun _ _ _ _ h => len_nil h)))) (jg_name nin nofun))
      (js_ret (JD.w (j_op upD r_catT (j_op upD r_catT (j_slT (j_var nin) jo_none (jo_some (j_var nin))) (j_tup (ja_cons (j_call (ja_cons (j_var nin) (ja_cons (j_op upD r_ixT (j_var nin) (j_var nin)) (ja_cons (j_op upD r_sub (j_var nin) j_int) ja_nil))) (len_cons (len_cons (len_cons (fun _ _ _ _ h => len_nil h))))) ja_nil))) (j_slT (j_var nin) (jo_some (j_op upD r_add (j_var nin) j_int)) jo_none)))))) (fun _ m => absurd m List.not_mem_nil) h⟩)
theorem ok__law_is_cell_twice {f : Addr} {fd : FuncData} (F : Fun K "_law_is_cell_twice" "_law_is_cell_twice" s__law_is_cell_twice f fd) (T : TxD mg) : FnOk P w K mg base CX0 1 f fd P__law_is_cell_twice (spD ⟨K, κ⟩ 1 L__law_is_cell_twice) := by
  exact F.ok sc__law_is_cell_twice (fun vs H Q E h => h.1) (fun cdv A outer s H vs Q E hr h => ⟨_, (pss_cons (ps_if (PW.pt (pw_or (pt_not (pt_val (pe_callB call_isi (by rfl) T.n_isinstance (by decide +kernel) (pa_cons (pv 0) (pa_cons (pe_bltn (v := .ty "tuple") (by rfl) T.n_tuple (by decide +kernel) rfl) pa_nil))))) (pw_or1 (pt_cmpR (op_notInDD (K := K) (hu70 hr)) (pe_callB call_len_seq (by rfl) T.n_len (by decide +kernel) (pa_cons (pv 0) pa_nil)) (pe_tup (pa_cons pe_int (pa_cons pe_int pa_nil))) rfl)))) (pss_one (ps_ret pe_bl)) pss_nil)
      (pss_one (ps_ret (pe_or (pe_and (pe_cmpR (op_eqT (Z := ⟨K, κ⟩) hr.units rfl) (pe_slice sl_tupA (pv 0) po_none (po_some pe_int)) (pe_tup (pa_cons pe_str pa_nil)) (nomark _)) (pe_one (pe_cmpR (op_eqT (Z := ⟨K, κ⟩) hr.units rfl) (pe_slice sl_tupA (pv 0) (po_some pe_int) (po_some pe_int)) (pe_slice sl_tupA (pv 0) (po_some pe_int) po_none) (nomark _)))) (pe_one (pe_and (pe_cmpR (op_eqT (Z := ⟨K, κ⟩) hr.units rfl) (pe_slice sl_tupA (pv 0) po_none (po_some pe_int)) (pe_tup (pa_cons pe_str pa_nil)) (nomark _)) (pe_one (pe_cmpR (op_eqT (Z := ⟨K, κ⟩) hr.units rfl) (pe_slice sl_tupA (pv 0) (po_some pe_int) (po_some pe_int)) (pe_slice sl_tupA (pv 0) (po_some pe_int) po_none) (nomark _))))))))), ok_body (Z := ⟨K, κ⟩) (O := []) (js_seq (js_if (jb_or (jb_not (jb_B (j_cb c_isi (ja_consW (JD.w (j_var nin)) (ja_cons j_ty ja_nil))))) (jb_test (j_op upD (r_in (neg := true)) (j_cb c_len (ja_consW (JD.w (j_var nin)) ja_nil)) (JD.w (j_tup (ja_cons j_int (ja_cons j_int ja_nil))))))) (js_ret (JD.w j_bl)) js_next)
      (js_ret (JD.w (j_orV (j_andV (j_op upD r_eqT (j_slT (j_var nin) jo_none (jo_some j_int)) (j_tup (ja_cons j_str ja_nil))) (j_op upD r_eqT (j_slT (j_var nin) (jo_some j_int) (jo_some j_int)) (j_slT (j_var nin) (jo_some j_int) jo_none))) (j_andV (j_op upD r_eqT (j_slT (j_var nin) jo_none (jo_some j_int)) (j_tup (ja_cons j_str ja_nil))) (j_op upD r_eqT (j_slT (j_var nin) (jo_some j_int) (jo_some j_int)) (j_slT (j_var nin) (jo_some j_int) jo_none))))))) (fun _ m => absurd m List.not_mem_nil) h⟩)
theorem ok__law_right {f : Addr} {fd : FuncData} (F : Fun K "_law_right" "_law_right" s__law_right f fd) (T : TxD mg) (c_law_take : Cal P w K mg base 1 "_law_take" P__law_take (spD ⟨K, κ⟩ 2 L__law_take)) (c_law_step : Cal P w K mg base 4 "_law_step" P__law_step (spD ⟨K, κ⟩ 1 L__law_step)) (c_law_event : Cal P w K mg base 5 "_law_event" P__law_event (spD ⟨K, κ⟩ 1 L__law_event)) (c_law_bent : Cal P w K mg base 8 "_law_bent" P__law_bent (spD ⟨K, κ⟩ 3 L__law_bent4)) (c_law_is_cell_twice : Cal P w K mg base 1 "_law_is_cell_twice" P__law_is_cell_twice (spD ⟨K, κ⟩ 1 L__law_is_cell_twice)) (c_law_is_step : Cal P w K mg base 4 "_law_is_step" P__law_is_step (spD ⟨K, κ⟩ 1 L__law_is_step0)) (c_law_is_event : Cal P w K mg base 7 "_law_is_event" P__law_is_event (spD ⟨K, κ⟩ 1 L__law_is_event)) (c_law_heard : Cal P w K mg base 9 "_law_heard" P__law_heard (spD ⟨K, κ⟩ 2 L__law_heard)) : FnG P w K mg base CX0 10 f fd P__law_right (spD ⟨K, κ⟩ 1 L__law_right) := by
  obtain ⟨f__law_take, fd__law_take, G__law_take, b__law_take, g__law_take, k__law_take⟩ := c_law_take
  obtain ⟨f__law_step, fd__law_step, G__law_step, b__law_step, g__law_step, k__law_step⟩ := c_law_step
  obtain ⟨f__law_event, fd__law_event, G__law_event, b__law_event, g__law_event, k__law_event⟩ := c_law_event
  obtain ⟨f__law_bent, fd__law_bent, G__law_bent, b__law_bent, g__law_bent, k__law_bent⟩ := c_law_bent
  obtain ⟨f__law_is_cell_twice, fd__law_is_cell_twice, G__law_is_cell_twice, b__law_is_cell_twice, g__law_is_cell_twice, k__law_is_cell_twice⟩ := c_law_is_cell_twice
  obtain ⟨f__law_is_step, fd__law_is_step, G__law_is_step, b__law_is_step, g__law_is_step, k__law_is_step⟩ := c_law_is_step
  obtain ⟨f__law_is_event, fd__law_is_event, G__law_is_event, b__law_is_event, g__law_is_event, k__law_is_event⟩ := c_law_is_event
  obtain ⟨f__law_heard, fd__law_heard, G__law_heard, b__law_heard, g__law_heard, k__law_heard⟩ := c_law_heard
  exact Fun_okG F sc__law_right (fun vs H Q E h => h.1) (fun cdv A outer s H vs Q E calm hr h => ⟨_, (pss_cons (ps_set (i := 1) sc__law_right.nd rfl (Or.inr rfl) (pe_cmpR op_eq (pe_call G__law_take (hr.mono (by decide)) rfl g__law_take k__law_take b__law_take .nil pass0 (pa_cons (pv 0) (pa_cons pe_int pa_nil))) pe_int (nomark _)))
      (pss_cons (ps_set (i := 2) sc__law_right.nd rfl (Or.inl rfl) (pe_callTy call_tuple_of (by rfl) T.n_tuple (by decide +kernel) (pa_cons (pe_lc (own := [("_law_turn", 7)]) (g := (gName 7)) (tt := tYes) rfl sc__law_right.nd (pi_range1 rfl T.n_range (pa_cons (pe_op op_add pe_int (pe_call G__law_take (hr.mono (by decide)) rfl g__law_take k__law_take b__law_take .nil pass0 (pa_cons (pv 0) (pa_cons pe_int pa_nil)))) pa_nil)) (blkOk_by (N := N__law_right) (sc := defScope s__law_right) (by decide +kernel)) (fun _ _ _ _ _ => (pg_name (i := 7) sc__law_right.nd rfl (Or.inl rfl))) (fun _ _ _ _ _ => pts_nil) (fun _ _ _ _ _ => (pe_ifExp (pt_val (pv 1)) (pe_call G__law_step (hr.mono (by decide)) rfl g__law_step k__law_step b__law_step .nil pass0 (pa_cons (pv 0) pa_nil)) (pe_call G__law_event (hr.mono (by decide)) rfl g__law_event k__law_event b__law_event .nil pass0 (pa_cons (pv 0) pa_nil))))) pa_nil)))
      (pss_cons (ps_for PassesOwn.never rfl (pi_tup (pe_tup (pa_cons (pv 2) (pa_cons (pe_call G__law_bent (hr.mono (by decide)) rfl g__law_bent k__law_bent b__law_bent .nil pass0 (pa_cons (pv 0) (pa_cons (pv 2) (pa_cons (pe_op op_add pe_int (pe_call G__law_take (hr.mono (by decide)) rfl g__law_take k__law_take b__law_take .nil pass0 (pa_cons (pv 0) (pa_cons pe_int pa_nil)))) pa_nil)))) (pa_cons (pe_call G__law_bent (hr.mono (by decide)) rfl g__law_bent k__law_bent b__law_bent .nil pass0 (pa_cons (pv 0) (pa_cons (pv 2) (pa_cons pe_int pa_nil)))) pa_nil))))) (pg_name (i := 3) sc__law_right.nd rfl (Or.inl rfl)) (pss_cons (ps_set (i := 4) sc__law_right.nd rfl (Or.inl rfl) (pe_tup (pa_cons pe_str (pa_cons pe_bl pa_nil))))
      (pss_cons (ps_if (pt_val (pe_callB call_isi (by rfl) T.n_isinstance (by decide +kernel) (pa_cons (pv 3) (pa_cons (pe_bltn (v := .ty "tuple") (by rfl) T.n_tuple (by decide +kernel) rfl) pa_nil)))) (pss_cons (ps_if (pt_val (pe_callB (cr_any rfl) (by rfl) T.n_any (by decide +kernel) (pa_cons (pe_lc (own := [("_law_one", 8)]) (g := (gName 8)) (tt := tYes) rfl sc__law_right.nd (pi_tup (pv 3)) (blkOk_by (N := N__law_right) (sc := defScope s__law_right) (by decide +kernel)) (fun _ _ _ _ _ => (pg_name (i := 8) sc__law_right.nd rfl (Or.inl rfl))) (fun _ _ _ _ _ => pts_nil) (fun _ _ _ _ _ => (pe_call G__law_is_cell_twice (hr.mono (by decide)) rfl g__law_is_cell_twice k__law_is_cell_twice b__law_is_cell_twice .nil pass0 (pa_cons (pv 8) pa_nil)))) pa_nil))) (pss_one (ps_ret pe_bl)) pss_nil)
      (pss_cons (ps_setLc (i := 5) (own := [("_law_at", 9), ("_law_one", 8)]) (g := (gTup _ 2 (gCons (gName 9) (gCons (gName 8) gNil))))  rfl sc__law_right.nd rfl rfl (sw_true rfl rfl rfl (by decide +kernel)) (pi_enumG rfl T.n_enumerate (pa_cons (pv 3) pa_nil)) (blkOk_by (N := N__law_right) (sc := defScope s__law_right) (by decide +kernel)) (fun _ _ _ _ _ => (pg_tup rfl (pgs_cons (pg_name (i := 9) sc__law_right.nd rfl (Or.inl rfl)) (pgs_cons (pg_name (i := 8) sc__law_right.nd rfl (Or.inl rfl)) pgs_nil)))) (fun _ _ _ _ _ => (pts_one (pt_not (pt_ifExp (pt_val (pv 1)) (pt_val (pe_call G__law_is_step (hr.mono (by decide)) rfl g__law_is_step k__law_is_step b__law_is_step .nil pass0 (pa_cons (pv 8) pa_nil))) (pt_val (pe_call G__law_is_event (hr.mono (by decide)) rfl g__law_is_event k__law_is_event b__law_is_event .nil pass0 (pa_cons (pv 8) pa_nil))))))) (fun _ _ _ _ _ => (pv 9)))
      (pss_one (ps_set (i := 4) sc__law_right.nd rfl (Or.inl rfl) (pe_ifExp (pt_cmpR (op_neD hr.units) (pv 5) (pe_lst pa_nil) (nomark _)) (pe_tup (pa_cons pe_str (pa_cons (pe_ix ix_list (pv 5) pe_int (fun _ _ => rfl)) pa_nil))) (pv 4)))))) (pss_one (ps_set (i := 4) sc__law_right.nd rfl (Or.inl rfl) (pe_tup (pa_cons pe_str (pa_cons pe_non pa_nil))))))
      (pss_cons (ps_set (i := 6) sc__law_right.nd rfl (Or.inl rfl) (pe_callB (call_repr2 (Z := ⟨K, κ⟩) calm (hu70 hr) rfl) (by rfl) T.n_repr (by decide +kernel) (pa_cons (pv 3) pa_nil)))
      (pss_one (ps_if (PW.pt (pw_or (pt_cmpR op_ne (pe_callB (call_repr2 (Z := ⟨K, κ⟩) calm (hu70 hr) rfl) (by rfl) T.n_repr (by decide +kernel) (pa_cons (pe_call G__law_heard (hr.mono (by decide)) rfl g__law_heard k__law_heard b__law_heard .nil pass0 (pa_cons (pv 1) (pa_cons (pv 3) pa_nil))) pa_nil)) (pe_callB (call_repr2 (Z := ⟨K, κ⟩) calm (hu70 hr) rfl) (by rfl) T.n_repr (by decide +kernel) (pa_cons (pv 4) pa_nil)) (nomark _)) (pw_or1 (pt_cmpR op_ne (pe_callB (call_repr2 (Z := ⟨K, κ⟩) calm (hu70 hr) rfl) (by rfl) T.n_repr (by decide +kernel) (pa_cons (pv 3) pa_nil)) (pv 6) (nomark _))))) (pss_one (ps_ret pe_bl)) pss_nil))))))
      (pss_one (ps_ret pe_bl))))), ok_body (Z := ⟨K, κ⟩) (O := []) (js_seq (js_asg (j_op upD r_eq (j_call (ja_cons (j_var nin) (ja_cons j_int ja_nil)) (len_cons (len_cons (fun _ _ _ _ h => len_nil h)))) j_int) (jg_name nin nofun))
      (js_seq (js_asg (j_cb c_tuple (ja_consW (JD.w (j_lc (ji_rg1 (ja_cons (j_op upD r_add j_int (j_call (ja_cons (j_var nin) (ja_cons j_int ja_nil)) (len_cons (len_cons (fun _ _ _ _ h => len_nil h))))) ja_nil)) (jg_name nin (fun w e => by cases e; decide)) jb_yes (j_if (jb_B (j_var nin)) (j_call (ja_cons (j_var nin) ja_nil) (len_cons (fun _ _ _ _ h => len_nil h))) (j_call (ja_cons (j_var nin) ja_nil) (len_cons (fun _ _ _ _ h => len_nil h)))))) ja_nil)) (jg_name nin nofun))
      (js_seq (js_for (ji_tup xS (j_tup (ja_cons (j_var nin) (ja_cons (j_call (ja_cons (j_var nin) (ja_cons (j_var nin) (ja_cons (j_op upD r_add j_int (j_call (ja_cons (j_var nin) (ja_cons j_int ja_nil)) (len_cons (len_cons (fun _ _ _ _ h => len_nil h))))) ja_nil))) (len_cons (len_cons (len_cons (fun _ _ _ _ h => len_nil h))))) (ja_cons (j_call (ja_cons (j_var nin) (ja_cons (j_var nin) (ja_cons j_int ja_nil))) (len_cons (len_cons (len_cons (fun _ _ _ _ h => len_nil h))))) ja_nil))))) (jg_name nin nofun) (js_seq (js_asg (j_tup (ja_cons j_str (ja_cons j_bl ja_nil))) (jg_name nin nofun))
      (js_seq (js_if (jb_B (j_cb c_isi (ja_consW (JD.w (j_var nin)) (ja_cons j_ty ja_nil)))) (js_seq (js_if (jb_B (j_cb c_any (ja_consW (JD.w (j_lc (ji_tup xCo (j_var nin)) (jg_name nin (fun w e => by cases e; decide)) jb_yes (j_call (ja_cons (j_var nin) ja_nil) (len_cons (fun _ _ _ _ h => len_nil h))))) ja_nil))) (js_ret (JD.w j_bl)) js_next)
      (js_seq (js_asg (j_lc (ji_enumG xCo (ja_cons (j_var nin) ja_nil)) (jg_tup (jg_cons (jg_name nin (fun w e => by cases e; decide)) (jg_cons (jg_name nin (fun w e => by cases e; decide)) jg_nil))) (jb_not (jb_if (jb_B (j_var nin)) (jb_B (j_call (ja_cons (j_var nin) ja_nil) (len_cons (fun _ _ _ _ h => len_nil h)))) (jb_B (j_call (ja_cons (j_var nin) ja_nil) (len_cons (fun _ _ _ _ h => len_nil h)))))) (j_var nin)) (jg_name nin nofun))
      (js_asg (j_if (jb_test (j_op upW r_neD (JD.w (j_var nin)) (JD.w (j_lst ja_nil)))) (j_tup (ja_cons j_str (ja_cons (j_op upW r_ixL (JD.w (j_var nin)) j_int) ja_nil))) (j_var nin)) (jg_name nin nofun)))) (js_asg (j_tup (ja_cons j_str (ja_cons j_non ja_nil))) (jg_name nin nofun)))
      (js_seq (js_asg (j_cb c_repr2 (ja_cons (j_var nin) ja_nil)) (jg_name nin nofun))
      (js_if (jb_or (jb_test (j_op upD r_ne (j_cb c_repr2 (ja_cons (j_call (ja_cons (j_var nin) (ja_cons (j_var nin) ja_nil)) (len_cons (len_cons (fun _ _ _ _ h => len_nil h)))) ja_nil)) (j_cb c_repr2 (ja_cons (j_var nin) ja_nil)))) (jb_test (j_op upD r_ne (j_cb c_repr2 (ja_cons (j_var nin) ja_nil)) (j_var nin)))) (js_ret (JD.w j_bl)) js_next)))))
      (js_ret (JD.w j_bl))))) (fun _ m => absurd m List.not_mem_nil) h⟩)
theorem ok_law {f : Addr} {fd : FuncData} (F : Fun K "law" "law" s_law f fd) (T : TxD mg) (c_law_pot_of : Cal P w K mg base 1 "_law_pot_of" P__law_pot_of (spD ⟨K, κ⟩ 2 L__law_pot_of)) (c_law_right : CalG P w K mg base 10 "_law_right" P__law_right (spD ⟨K, κ⟩ 1 L__law_right)) : FnG P w K mg base CX0 11 f fd P_law (spD ⟨K, κ⟩ 1 L_law) := by
  obtain ⟨f__law_pot_of, fd__law_pot_of, G__law_pot_of, b__law_pot_of, g__law_pot_of, k__law_pot_of⟩ := c_law_pot_of
  obtain ⟨f__law_right, fd__law_right, G__law_right, b__law_right, g__law_right, k__law_right⟩ := c_law_right
  exact Fun_okG F sc_law (fun vs H Q E h => h.1) (fun cdv A outer s H vs Q E calm hr h => ⟨_, (pss_cons (ps_for PassesOwn.never rfl (pi_range1 rfl T.n_range (pa_cons (pe_callB (call_max2 rfl) (by rfl) T.n_max (by decide +kernel) (pa_cons pe_int (pa_cons (pe_callB (call_min2 rfl) (by rfl) T.n_min (by decide +kernel) (pa_cons pe_int (pa_cons (pe_callB call_len_seq (by rfl) T.n_len (by decide +kernel) (pa_cons (pv 0) pa_nil)) pa_nil))) pa_nil))) pa_nil)) (pg_name (i := 1) sc_law.nd rfl (Or.inl rfl)) (pss_cons (ps_set (i := 2) sc_law.nd rfl (Or.inr rfl) (pe_call G__law_pot_of (hr.mono (by decide)) rfl g__law_pot_of k__law_pot_of b__law_pot_of .nil pass0 (pa_cons (pv 0) (pa_cons (pv 1) pa_nil))))
      (pss_one (ps_if (pt_not (pt_val (pe_callB (cr_all rfl) (by rfl) T.n_all (by decide +kernel) (pa_cons (pe_lc (own := [("_law_turn", 3)]) (g := (gName 3)) (tt := tYes) rfl sc_law.nd (pi_range1 rfl T.n_range (pa_cons pe_int pa_nil)) (blkOk_by (N := N_law) (sc := defScope s_law) (by decide +kernel)) (fun _ _ _ _ _ => (pg_name (i := 3) sc_law.nd rfl (Or.inl rfl))) (fun _ _ _ _ _ => pts_nil) (fun _ _ _ _ _ => (pe_callG calm G__law_right (hr.mono (by decide)) rfl g__law_right k__law_right b__law_right pass0 (pa_cons (pv 2) pa_nil)))) pa_nil)))) (pss_one (ps_ret pe_bl)) pss_nil))))
      (pss_one (ps_ret pe_bl))), ok_body (Z := ⟨K, κ⟩) (O := []) (js_seq (js_for (ji_rg1 (ja_cons (j_cb c_max (ja_cons j_int (ja_cons (j_cb c_min (ja_cons j_int (ja_cons (j_cb c_len (ja_consW (JD.w (j_var nin)) ja_nil)) ja_nil))) ja_nil))) ja_nil)) (jg_name nin nofun) (js_seq (js_asg (j_call (ja_cons (j_var nin) (ja_cons (j_var nin) ja_nil)) (len_cons (len_cons (fun _ _ _ _ h => len_nil h)))) (jg_name nin nofun))
      (js_if (jb_not (jb_B (j_cb c_all (ja_consW (JD.w (j_lc (ji_rg1 (ja_cons j_int ja_nil)) (jg_name nin (fun w e => by cases e; decide)) jb_yes (j_call (ja_cons (j_var nin) ja_nil) (len_cons (fun _ _ _ _ h => len_nil h))))) ja_nil)))) (js_ret (JD.w j_bl)) js_next)))
      (js_ret (JD.w j_bl))) (fun _ m => absurd m List.not_mem_nil) h⟩)
end
end Zd

namespace Zd
open PySem PySem.Spec PyProof.Rows L2 Zg
section
variable {P : Program} {w : World} {K : PySem.W.Frag} {mg : Str → Option Value} {base : Heap} {κ : String → Addr} {CW C_BadPlan C_BadRun : Addr}
/-- the error classes that a law asks of what it caught -/
structure ExK2 (K : PySem.W.Frag) (C D : Addr) : Prop where
  ek : ExcK K C
  no : PySem.W.kitOne K (.ref C) (.ref D) = some false
theorem ok__law_heard {f : Addr} {fd : FuncData} (F : Fun K "_law_heard" "_law_heard" s__law_heard f fd) (T : TxD mg) (n_ve : mg "ValueError" = none) (g_WidthError : mg "WidthError" = some (.ref CW)) (EX_BadPlan : ExT K mg CW C_BadPlan "BadPlan" "index") (EX_BadRun : ExT K mg CW C_BadRun "BadRun" "index")
    (ekP : ExcK K C_BadPlan) (ekR : ExcK K C_BadRun) (κ_BadPlan : κ "BadPlan" = C_BadPlan) (κ_BadRun : κ "BadRun" = C_BadRun)
    (cp : CalX P w K mg base 7 "show_plan" P_show_plan (spD ⟨K, κ⟩ 1 L_show_plan)) (cr : CalX P w K mg base 8 "show_run" P_show_run (spD ⟨K, κ⟩ 1 L_show_run)) : FnOk P w K mg base CX0 9 f fd P__law_heard (spD ⟨K, κ⟩ 2 L__law_heard) := by
  obtain ⟨f_p, fd_p, G_p, b_p, g_p, k_p⟩ := cp
  obtain ⟨f_r, fd_r, G_r, b_r, g_r, k_r⟩ := cr
  have g_P := EX_BadPlan.g
  have g_R := EX_BadRun.g
  refine F.ok sc__law_heard (fun vs H Q E h => h.1) (fun cdv A outer s H vs Q E hr h => ?_)
  refine ⟨_, (pss_cons (ps_set (i := 2) sc__law_heard.nd rfl (Or.inl rfl) pe_non)
    (pss_keep (i := 4) rfl rfl sc__law_heard.nd rfl rfl ⟨rfl, by decide, .inl g_WidthError⟩ (fun W pn xe tk => (pss_cons (ps_set (i := 3) sc__law_heard.nd rfl (Or.inl rfl) (pe_ifExp (pt_val (pv 0)) (pe_callXs G_p (hr.mono (by decide)) rfl g_p k_p b_p (fun σ => passAt tk σ) (pa_cons (pv 1) pa_nil)) (pe_callXs G_r (hr.mono (by decide)) rfl g_r k_r b_r (fun σ => passAt tk σ) (pa_cons (pv 1) pa_nil)))) (pss_one (ps_ret (pe_tup (pa_cons pe_str (pa_cons (pe_callB (show CallR _ (.builtin "isinstance") (rIsi K) from call_isi) (by rfl) T.n_isinstance (by decide +kernel) (pa_cons (pv 3) (pa_cons (pe_bltn (v := .ty "str") (by rfl) T.n_str (by decide +kernel) rfl) pa_nil))) pa_nil)))))))
    (fun a oe cls d pn hz hf => (pss_one (ps_set (i := 2) sc__law_heard.nd rfl (Or.inl rfl) (pv 4))))
    pss_none
    (fun a oe cls d pn hz hf => (pss_cons (ps_set (i := 5) sc__law_heard.nd rfl (Or.inl rfl) (pe_ifExp (pt_val (pv 0)) (pe_callB (call_isK hz hf) (by rfl) T.n_isinstance (by decide +kernel) (pa_cons (pv 2) (pa_cons (pe_glob (v := .ref C_BadPlan) rfl g_P rfl) pa_nil))) (pe_callB (call_isK hz hf) (by rfl) T.n_isinstance (by decide +kernel) (pa_cons (pv 2) (pa_cons (pe_glob (v := .ref C_BadRun) rfl g_R rfl) pa_nil))))) (pss_cons (ps_if (PW.pt (pw_or (pt_not (pt_val (pv 5))) (pw_or1 (pt_not (pt_val (pe_callB (call_isK hz hf) (by rfl) T.n_isinstance (by decide +kernel) (pa_cons (pv 2) (pa_cons (pe_bltn (v := .ty "ValueError") (by rfl) n_ve (by decide +kernel) rfl) pa_nil)))))))) (pss_one (ps_ret (pe_tup (pa_cons pe_str (pa_cons pe_non pa_nil))))) pss_nil) (pss_one (ps_ret (pe_tup (pa_cons pe_str (pa_cons (pe_xfK hz hf (pv 2)) pa_nil)))))))))), ?_⟩
  obtain ⟨hl, p, ds, S, h0, hd, hS, q⟩ := h
  obtain ⟨⟨b, y⟩, ea, q⟩ := Post.opt q
  rw [argsH_is ea] at hd
  obtain ⟨x, v, rfl, hx, hv⟩ := isDs_two hd
  rw [isD_bl.mp hx]
  clear hx hd hl
  have told : ∀ (S' : List Dat) (z : Str), (∀ H' p', ExtE H p H' p' → IsS ⟨K, κ⟩ H' p' S' → ∀ v, IsD ⟨K, κ⟩ H' p' v (.tup [.str "told", .bl true]) → Q v H') → ∀ H' p', ExtE H p H' p' → IsS ⟨K, κ⟩ H' p' S' → ∀ u, IsD ⟨K, κ⟩ H' p' u (.str z) → ∀ D : L2.St → Hp → Prop,
      tRet (tTup (tCons (tC (.str "told")) (tCons (tCB (rIsi K) (tCons (tVar 3) (tCons (tC (.ty "str")) tNil))) tNil))) { nx := D, rt := Q } [some (.bl b), some v, some .non, some u, none, none] H' := fun S' z k H' p' e s u hu D => by
    have eu := isD_str.mp hu
    subst eu
    refine ⟨_, rfl, .str z, .ty "str", .type "str", .type "str", true, rfl, .ty "str", .base (.str z), kit_ty rfl, ?_, fun a na => ?_⟩
    · exact few (n := 2) (by decide)
    · exact k _ _ (e.trans (ExtE.new na)) (s.ext (same_new na)) _ (new_tup s na (isDs_cons.mpr ⟨_, _, rfl, isD_str.mpr rfl, .one (isD_bl.mpr rfl)⟩))
  cases b with
  | true =>
    refine ⟨.bl true, rfl, true, rfl, ?_⟩
    refine iteT ⟨v, rfl, rfl, p, [y], S, h0, .one hv, hS, ?_⟩
    change Post _ _ _ (heardD (L_show_plan [y] S) true) H p _ at q
    generalize L_show_plan [y] S = o at q ⊢
    cases o with
    | bad => exact q.elim
    | ok d S' =>
      cases d with
      | str z => exact fun H' p' e s u hu => told S' z q H' p' e s u hu _
      | _ => exact q.elim
    | er c fs S' =>
      cases ee : erH c fs true with
      | none =>
        have z : heardD (.er c fs S') true = .bad := by unfold heardD; simp only [ee]
        rw [z] at q
        exact q.elim
      | some x0 =>
        have q2 : ∀ H' p', ExtE H p H' p' → IsS ⟨K, κ⟩ H' p' S' → ∀ v, IsD ⟨K, κ⟩ H' p' v (.tup [.str "bad", x0]) → Q v H' := by
          have z : heardD (.er c fs S') true = .ok (.tup [.str "bad", x0]) S' := by unfold heardD; simp only [ee]
          rw [z] at q
          exact q
        obtain ⟨ec, c', ef⟩ := erH_is ee
        subst ef
        have ec : c = "BadPlan" := ec
        subst ec
        intro H' p' e s ns dd efs d H2 us nd sm ed hl hu
        cases efs
        obtain ⟨u, rfl, hu⟩ := isDs_one hu
        have eκ : (⟨K, κ⟩ : Cz).κ "BadPlan" = C_BadPlan := κ_BadPlan
        rw [eκ]
        have e2 : ExtE H p H2 p' := e.trans (ExtE.same sm)
        have s2 := s.ext sm
        have ep : (⟨p'.α, [], p'.γ⟩ : Pl) = p' := by
          have w := e.ω
          rw [h0] at w
          cases p'
          cases w
          rfl
        rw [ep] at hu
        refine ⟨EX_BadPlan.me, fun a na => ⟨.ref a, rfl, .bl true, rfl, true, rfl, iteT ⟨.ref a, rfl, C_BadPlan, d, _, .ref C_BadPlan, .ref C_BadPlan, true, rfl, rfl, ekP, rfl, ed, fun _ h => h, EX_BadPlan.kc, ?_⟩⟩⟩
        refine ⟨.bl true, rfl, true, rfl, iteF ⟨.ref a, rfl, C_BadPlan, d, _, .ty "ValueError", .type "ValueError", true, rfl, rfl, ekP, rfl, ed, fun _ h => h, EX_BadPlan.kv, ?_⟩⟩
        refine ⟨true, rfl, iteF ⟨.ref a, rfl, rfl, C_BadPlan, d, _, u, rfl, ekP, EX_BadPlan.nf, rfl, ed, rfl, few (n := 2) (by decide), fun t nt => ?_⟩⟩
        exact q2 _ p' (e2.trans (ExtE.new nt)) (s2.ext (same_new nt)) _ (new_tup s2 nt (isDs_cons.mpr ⟨_, _, rfl, isD_str.mpr rfl, hu⟩))
  | false =>
    refine ⟨.bl false, rfl, false, rfl, ?_⟩
    refine iteF ⟨v, rfl, rfl, p, [y], S, h0, .one hv, hS, ?_⟩
    change Post _ _ _ (heardD (L_show_run [y] S) false) H p _ at q
    generalize L_show_run [y] S = o at q ⊢
    cases o with
    | bad => exact q.elim
    | ok d S' =>
      cases d with
      | str z => exact fun H' p' e s u hu => told S' z q H' p' e s u hu _
      | _ => exact q.elim
    | er c fs S' =>
      cases ee : erH c fs false with
      | none =>
        have z : heardD (.er c fs S') false = .bad := by unfold heardD; simp only [ee]
        rw [z] at q
        exact q.elim
      | some x0 =>
        have q2 : ∀ H' p', ExtE H p H' p' → IsS ⟨K, κ⟩ H' p' S' → ∀ v, IsD ⟨K, κ⟩ H' p' v (.tup [.str "bad", x0]) → Q v H' := by
          have z : heardD (.er c fs S') false = .ok (.tup [.str "bad", x0]) S' := by unfold heardD; simp only [ee]
          rw [z] at q
          exact q
        obtain ⟨ec, c', ef⟩ := erH_is ee
        subst ef
        have ec : c = "BadRun" := ec
        subst ec
        intro H' p' e s ns dd efs d H2 us nd sm ed hl hu
        cases efs
        obtain ⟨u, rfl, hu⟩ := isDs_one hu
        have eκ : (⟨K, κ⟩ : Cz).κ "BadRun" = C_BadRun := κ_BadRun
        rw [eκ]
        have e2 : ExtE H p H2 p' := e.trans (ExtE.same sm)
        have s2 := s.ext sm
        have ep : (⟨p'.α, [], p'.γ⟩ : Pl) = p' := by
          have w := e.ω
          rw [h0] at w
          cases p'
          cases w
          rfl
        rw [ep] at hu
        refine ⟨EX_BadRun.me, fun a na => ⟨.ref a, rfl, .bl false, rfl, false, rfl, iteF ⟨.ref a, rfl, C_BadRun, d, _, .ref C_BadRun, .ref C_BadRun, true, rfl, rfl, ekR, rfl, ed, fun _ h => h, EX_BadRun.kc, ?_⟩⟩⟩
        refine ⟨.bl true, rfl, true, rfl, iteF ⟨.ref a, rfl, C_BadRun, d, _, .ty "ValueError", .type "ValueError", true, rfl, rfl, ekR, rfl, ed, fun _ h => h, EX_BadRun.kv, ?_⟩⟩
        refine ⟨true, rfl, iteF ⟨.ref a, rfl, rfl, C_BadRun, d, _, u, rfl, ekR, EX_BadRun.nf, rfl, ed, rfl, few (n := 2) (by decide), fun t nt => ?_⟩⟩
        exact q2 _ p' (e2.trans (ExtE.new nt)) (s2.ext (same_new nt)) _ (new_tup s2 nt (isDs_cons.mpr ⟨_, _, rfl, isD_str.mpr rfl, hu⟩))
end
end Zd

namespace Zd
open PySem PySem.Spec PyProof.Rows L2 Zg
/-! ### what a program of trees does, by its parts -/
def wp {α : Type} (m : M α) (S : List Dat) (C : α → List Dat → Prop) : Prop := match m S with
  | .ok a S' => C a S'
  | _ => False
section
variable {α β : Type} {S : List Dat}
theorem wp_of {m : M α} {a : α} {S' : List Dat} {C : α → List Dat → Prop} (h : m S = .ok a S') (k : C a S') : wp m S C := by unfold wp; rw [h]; exact k
theorem wp_ok {m : M α} {C : α → List Dat → Prop} (h : wp m S C) : ∃ a S', m S = .ok a S' ∧ C a S' := by
  unfold wp at h
  cases e : m S with
  | ok a S' => rw [e] at h; exact ⟨a, S', rfl, h⟩
  | er c fs S' => rw [e] at h; exact h.elim
  | bad => rw [e] at h; exact h.elim
theorem wp_bind {m : M α} {f : α → M β} {C : β → List Dat → Prop} (h : wp m S fun a S' => wp (f a) S' C) : wp (m >>= f) S C := by
  obtain ⟨a, S', e, k⟩ := wp_ok h
  show wp (M.bnd m f) S C
  unfold wp M.bnd
  rw [e]
  exact k
theorem wp_mono {m : M α} {C D : α → List Dat → Prop} (h : wp m S C) (k : ∀ a S', C a S' → D a S') : wp m S D := by
  obtain ⟨a, S', e, c⟩ := wp_ok h
  exact wp_of e (k a S' c)
theorem wp_pure {a : α} {C : α → List Dat → Prop} (h : C a S) : wp (pure a) S C := h
theorem wp_need {b : Bool} {f : Unit → M β} {C : β → List Dat → Prop} (hb : b = true) (h : wp (f ()) S C) : wp (M.need b >>= f) S C := by subst hb; exact h
theorem wp_opt {o : Option α} {a : α} {f : α → M β} {C : β → List Dat → Prop} (ho : o = some a) (h : wp (f a) S C) : wp (M.opt o >>= f) S C := by subst ho; exact h
variable {ρ : Env}
theorem wp_run {N : Nat} {b : Env → M Flow} {ds : List Dat} {C : Dat → List Dat → Prop} (h : wp (b (startE N ds)) S fun f S' => wp (outF f) S' C) : wp (runD N b ds) S C := wp_bind h
theorem wp_seq {a b : Env → M Flow} {C : Flow → List Dat → Prop} (h : wp (a ρ) S fun f S' => match f with | .nx ρ' => wp (b ρ') S' C | g => C g S') : wp (sSeq a b ρ) S C := wp_bind (wp_mono h fun f S' k => by cases f <;> exact k)
theorem wp_if {c : Env → M Bool} {a b : Env → M Flow} {C : Flow → List Dat → Prop} (h : wp (c ρ) S fun x S' => (x = true → wp (a ρ) S' C) ∧ (x = false → wp (b ρ) S' C)) : wp (sIf c a b ρ) S C := wp_bind (wp_mono h fun x S' k => by
  cases x with
  | true => exact k.1 rfl
  | false => exact k.2 rfl)
theorem wp_xif {c : Env → M Bool} {a b : Env → M Dat} {C : Dat → List Dat → Prop} (h : wp (c ρ) S fun x S' => (x = true → wp (a ρ) S' C) ∧ (x = false → wp (b ρ) S' C)) : wp (xIf c a b ρ) S C := wp_bind (wp_mono h fun x S' k => by
  cases x with
  | true => exact k.1 rfl
  | false => exact k.2 rfl)
theorem wp_asg {a : Env → M Dat} {g : Env → Dat → Option Env} {C : Flow → List Dat → Prop} (h : wp (a ρ) S fun d S' => ∃ ρ', g ρ d = some ρ' ∧ C (.nx ρ') S') : wp (sAsg a g ρ) S C := wp_bind (wp_mono h fun d S' ⟨ρ', e, k⟩ => wp_opt e k)
theorem wp_ret {a : Env → M Dat} {C : Flow → List Dat → Prop} (h : wp (a ρ) S fun d S' => C (.rt d) S') : wp (sRet a ρ) S C := wp_bind h
theorem wp_op {f : Dat → Dat → M Dat} {a b : Env → M Dat} {C : Dat → List Dat → Prop} (h : wp (a ρ) S fun x S1 => wp (b ρ) S1 fun y S2 => wp (f x y) S2 C) : wp (xOp f a b ρ) S C := wp_bind (wp_mono h fun x S1 k => wp_bind k)
theorem wp_un {f : Dat → M Dat} {a : Env → M Dat} {C : Dat → List Dat → Prop} (h : wp (a ρ) S fun x S1 => wp (f x) S1 C) : wp (xUn f a ρ) S C := wp_bind h
theorem wp_test {a : Env → M Dat} {C : Bool → List Dat → Prop} (h : wp (a ρ) S fun d S' => ∃ b, d = .bl b ∧ C b S') : wp (bTest a ρ) S C := wp_bind (wp_mono h fun d S' ⟨b, e, k⟩ => by subst e; exact k)
theorem wp_not {a : Env → M Bool} {C : Bool → List Dat → Prop} (h : wp (a ρ) S fun b S' => C (!b) S') : wp (bNot a ρ) S C := wp_bind h
theorem wp_and {a b : Env → M Bool} {C : Bool → List Dat → Prop} (h : wp (a ρ) S fun x S' => (x = true → wp (b ρ) S' C) ∧ (x = false → C false S')) : wp (bAnd a b ρ) S C := wp_bind (wp_mono h fun x S' k => by
  cases x with
  | true => exact k.1 rfl
  | false => exact k.2 rfl)
theorem wp_or {a b : Env → M Bool} {C : Bool → List Dat → Prop} (h : wp (a ρ) S fun x S' => (x = true → C true S') ∧ (x = false → wp (b ρ) S' C)) : wp (bOr a b ρ) S C := wp_bind (wp_mono h fun x S' k => by
  cases x with
  | true => exact k.1 rfl
  | false => exact k.2 rfl)
theorem wp_andV {a b : Env → M Dat} {C : Dat → List Dat → Prop} (h : wp (a ρ) S fun d S' => ∃ x, d = .bl x ∧ (x = true → wp (b ρ) S' C) ∧ (x = false → C (.bl false) S')) : wp (xAnd a b ρ) S C := wp_bind (wp_test (wp_mono h fun d S' ⟨x, e, k1, k2⟩ => ⟨x, e, by
  cases x with
  | true => exact k1 rfl
  | false => exact k2 rfl⟩))
theorem wp_orV {a b : Env → M Dat} {C : Dat → List Dat → Prop} (h : wp (a ρ) S fun d S' => ∃ x, d = .bl x ∧ (x = true → C (.bl true) S') ∧ (x = false → wp (b ρ) S' C)) : wp (xOr a b ρ) S C := wp_bind (wp_test (wp_mono h fun d S' ⟨x, e, k1, k2⟩ => ⟨x, e, by
  cases x with
  | true => exact k1 rfl
  | false => exact k2 rfl⟩))
theorem wp_notV {a : Env → M Dat} {C : Dat → List Dat → Prop} (h : wp (a ρ) S fun d S' => ∃ x, d = .bl x ∧ C (.bl (!x)) S') : wp (xNot a ρ) S C := wp_bind (wp_test (wp_mono h fun d S' ⟨x, e, k⟩ => ⟨x, e, k⟩))
theorem wp_cons {a : Env → M Dat} {l : Env → M (List Dat)} {C : List Dat → List Dat → Prop} (h : wp (a ρ) S fun x S1 => wp (l ρ) S1 fun xs S2 => C (x :: xs) S2) : wp (xCons a l ρ) S C := wp_bind (wp_mono h fun x S1 k => wp_bind (wp_mono k fun xs S2 k => k))
theorem wp_cb {f : List Dat → M Dat} {l : Env → M (List Dat)} {C : Dat → List Dat → Prop} (h : wp (l ρ) S fun ds S1 => wp (f ds) S1 C) : wp (xCB f l ρ) S C := wp_bind h
theorem wp_calm {m : M α} {C : α → List Dat → Prop} (h : wp m S C) : wp (calm m) S C := by
  obtain ⟨a, S', e, k⟩ := wp_ok h
  unfold wp calm
  rw [e]
  exact k
theorem wp_call {f : List Dat → M Dat} {l : Env → M (List Dat)} {C : Dat → List Dat → Prop} (h : wp (l ρ) S fun ds S1 => wp (f ds) S1 C) : wp (xCall f l ρ) S C := wp_bind (wp_mono h fun ds S1 k => wp_calm k)
theorem wp_tup {l : Env → M (List Dat)} {C : Dat → List Dat → Prop} (h : wp (l ρ) S fun ds S1 => ds.length ≤ 1000 ∧ C (.tup ds) S1) : wp (xTup l ρ) S C := wp_bind (wp_mono h fun ds S1 ⟨k1, k2⟩ => wp_need (decide_eq_true k1) k2)
theorem wp_lst {l : Env → M (List Dat)} {C : Dat → List Dat → Prop} (h : wp (l ρ) S fun ds S1 => ds.length ≤ 1000 ∧ C (.lst ds) S1) : wp (xLst l ρ) S C := wp_bind (wp_mono h fun ds S1 ⟨k1, k2⟩ => wp_need (decide_eq_true k1) k2)
/-- a loop: what holds of what is left to walk -/
theorem wp_for {g : Env → Dat → Option Env} {b : Env → M Flow} {C : Flow → List Dat → Prop} (I : List Dat → Env → List Dat → Prop)
    (step : ∀ d ds ρ S, I (d :: ds) ρ S → ∃ ρ1, g ρ d = some ρ1 ∧ wp (b ρ1) S fun f S' => match f with | .nx ρ2 => I ds ρ2 S' | .ct ρ2 => I ds ρ2 S' | .bk ρ2 => C (.nx ρ2) S' | .rt d => C (.rt d) S')
    (stop : ∀ ρ S, I [] ρ S → C (.nx ρ) S) : ∀ (ds : List Dat) (ρ : Env) (S : List Dat), I ds ρ S → wp (forD g b ds ρ) S C
  | [], ρ, S, h => stop ρ S h
  | d :: ds, ρ, S, h => by
    obtain ⟨ρ1, e, k⟩ := step d ds ρ S h
    unfold forD
    refine wp_opt e (wp_bind (wp_mono k fun f S' k => ?_))
    cases f with
    | nx ρ2 => exact wp_for I step stop ds ρ2 S' k
    | ct ρ2 => exact wp_for I step stop ds ρ2 S' k
    | bk ρ2 => exact k
    | rt d => exact k
/-- a comprehension without a test -/
theorem wp_comp {g : Env → Dat → Option Env} {e : Env → M Dat} {ρ : Env} (I : List Dat → List Dat → List Dat → Prop)
    (step : ∀ d ds acc S, I (d :: ds) acc S → ∃ ρ1, g ρ d = some ρ1 ∧ wp (e ρ1) S fun x S' => I ds (acc ++ [x]) S') : ∀ (ds acc : List Dat) (S : List Dat) (C : List Dat → List Dat → Prop), I ds acc S → (∀ xs S', I [] (acc ++ xs) S' → C xs S') → wp (compD g bYes e ρ ds) S C
  | [], acc, S, C, h, k => k [] S (by rw [List.append_nil]; exact h)
  | d :: ds, acc, S, C, h, k => by
    obtain ⟨ρ1, e1, h1⟩ := step d ds acc S h
    unfold compD
    refine wp_opt e1 (wp_bind (wp_pure ?_))
    rw [if_pos rfl]
    refine wp_bind (wp_mono h1 fun x S' h2 => wp_bind (wp_comp I step ds (acc ++ [x]) S' _ h2 fun xs S2 h3 => ?_))
    exact k (x :: xs) S2 (by rw [List.append_assoc] at h3; exact h3)
theorem wp_lc {it : Env → M (List Dat)} {g : Env → Dat → Option Env} {e : Env → M Dat} {vs : List Nat} {C : Dat → List Dat → Prop} (h : wp (it ρ) S fun ds S1 => ds.length ≤ 100000 ∧ wp (compD g bYes e (wipeE ρ vs) ds) S1 fun xs S2 => C (.lst xs) S2) : wp (xLc it g bYes e vs ρ) S C :=
  wp_bind (wp_mono h fun ds S1 ⟨k1, k2⟩ => wp_need (decide_eq_true k1) (wp_bind k2))
end
end Zd

namespace Zd
open PySem PySem.Spec PyProof.Rows L2 Zg
def Pot (i k : Nat) (S : List Dat) : Prop := ∃ o m n : Int, ((i = 0 ∧ S = [.lst [.int o, .int m, .int n]]) ∨ (∃ a, i = 1 ∧ S = [a, .lst [.int o, .int m, .int n]]) ∨ (∃ a b, i = 2 ∧ S = [a, b, .lst [.int o, .int m, .int n]])) ∧ 0 ≤ o ∧ 0 ≤ m ∧ m < 2305843009213693921 ∧ 0 ≤ n ∧ n + k ≤ 100000
theorem Pot.le {i k l : Nat} {S : List Dat} (h : Pot i k S) (j : l ≤ k) : Pot i l S := by
  obtain ⟨o, m, n, a, b, c, d, e, f⟩ := h
  exact ⟨o, m, n, a, b, c, d, e, by omega⟩
theorem w_mod {S : List Dat} {i j : Int} {C : Dat → List Dat → Prop} (hj : 0 < j) (h : C (.int (i % j)) S) : wp (dMod (.int i) (.int j)) S C := wp_need (decide_eq_true hj) h
theorem w_div {S : List Dat} {i j : Int} {C : Dat → List Dat → Prop} (hj : 0 < j) (h2 : j < 2 ^ 200) (h : C (.int (i / j)) S) : wp (dDiv (.int i) (.int j)) S C := wp_need (by simp only [Bool.and_eq_true, decide_eq_true_eq]; exact ⟨hj, h2⟩) h
theorem w_mul {S : List Dat} {i j : Int} {C : Dat → List Dat → Prop} (c : (-(2 ^ 64) < i ∧ i < 2 ^ 64) ∨ (-(2 ^ 64) < j ∧ j < 2 ^ 64)) (h : C (.int (i * j)) S) : wp (dMul (.int i) (.int j)) S C := wp_need (by unfold bMul; simp only [Bool.or_eq_true, Bool.and_eq_true, decide_eq_true_eq]; exact c) h
theorem w_pow {S : List Dat} {i j : Int} {C : Dat → List Dat → Prop} (c : 0 ≤ j ∧ j ≤ 1000000) (d : i.natAbs < 2 ^ 64) (h : C (.int (i ^ j.toNat)) S) : wp (dPow (.int i) (.int j)) S C := wp_need (by unfold bPow; simp only [Bool.and_eq_true, decide_eq_true_eq]; exact ⟨c, d⟩) h
theorem w_add {S : List Dat} {i j : Int} {C : Dat → List Dat → Prop} (h : C (.int (i + j)) S) : wp (dAdd (.int i) (.int j)) S C := h
theorem w_sub {S : List Dat} {i j : Int} {C : Dat → List Dat → Prop} (h : C (.int (i - j)) S) : wp (dSub (.int i) (.int j)) S C := h
theorem w_int {S : List Dat} {i : Int} {C : Dat → List Dat → Prop} (h : C (.int i) S) : wp (dInt [.int i]) S C := h
theorem wp_nil {S : List Dat} {ρ : Env} {C : List Dat → List Dat → Prop} (h : C [] S) : wp (xNil ρ) S C := h
theorem wp_c {S : List Dat} {ρ : Env} {d : Dat} {C : Dat → List Dat → Prop} (h : C d S) : wp (xC d ρ) S C := h
theorem wp_var {S : List Dat} {ρ : Env} {i : Nat} {d : Dat} {C : Dat → List Dat → Prop} (e : ρ[i]? = some (some d)) (h : C d S) : wp (xVar i ρ) S C := by unfold xVar; rw [e]; exact h
theorem w_take0 {k : Nat} {u : Int} {o m n : Int} {C : Dat → List Dat → Prop} (o0 : 0 ≤ o) (m0 : 0 ≤ m) (m1 : m < 2305843009213693921) (n0 : 0 ≤ n) (nk : n + ((k + 1 : Nat) : Int) ≤ 100000) (u0 : 0 < u) (u1 : u < 2 ^ 200) (q : ∀ r S', 0 ≤ r → r < u → Pot 0 k S' → C (.int r) S') : wp (L__law_take [.loc 0, .int u]) [.lst [.int o, .int m, .int n]] C := by
  refine wp_run (wp_seq (wp_if (wp_test (wp_of (a := .bl (decide (0 < o))) rfl ⟨_, rfl, fun h => ?_, fun h => ?_⟩))))
  · have h := of_decide_eq_true h
    refine wp_seq (wp_asg (wp_op (wp_of (a := .int o) rfl (wp_of (a := .int u) rfl (w_mod u0 ⟨_, rfl, ?_⟩)))))
    refine wp_seq (wp_bind (wp_op (wp_of (a := .int o) rfl (wp_of (a := .int u) rfl (w_div u0 u1 ?_)))))
    refine wp_of rfl ?_
    refine wp_ret (wp_of rfl ?_)
    exact q _ _ (Int.emod_nonneg _ (by omega)) (Int.emod_lt_of_pos _ u0) ⟨_, _, _, .inl ⟨rfl, rfl⟩, Int.ediv_nonneg o0 (by omega), m0, m1, n0, by omega⟩
  · refine wp_of rfl ?_
    refine wp_seq (wp_of rfl ?_)
    have l5 : 0 ≤ (n + 1) % 5 ∧ (n + 1) % 5 < 5 := ⟨Int.emod_nonneg _ (by decide), Int.emod_lt_of_pos _ (by decide)⟩
    refine wp_seq (wp_asg (wp_op (wp_of (a := .lst [.int 2147483647, .int 2147483629, .int 2147483587, .int 2147483579, .int 2147483563]) rfl (wp_of (a := .int ((n + 1) % 5)) rfl ?_))))
    have pr : ∃ pr : Int, 2147483563 ≤ pr ∧ pr ≤ 2147483647 ∧ atI [Dat.int 2147483647, .int 2147483629, .int 2147483587, .int 2147483579, .int 2147483563] ((n + 1) % 5) = some (.int pr) := by
      generalize (n + 1) % 5 = i at l5 ⊢
      have : i = 0 ∨ i = 1 ∨ i = 2 ∨ i = 3 ∨ i = 4 := by omega
      rcases this with rfl | rfl | rfl | rfl | rfl <;> exact ⟨_, by decide, by decide, rfl⟩
    obtain ⟨pr, p0, p1, pe⟩ := pr
    refine wp_of (S' := _) (show M.opt (atI [Dat.int 2147483647, .int 2147483629, .int 2147483587, .int 2147483579, .int 2147483563] ((n + 1) % 5)) _ = .ok (.int pr) _ by rw [pe]; rfl) ⟨_, rfl, ?_⟩
    have sq0 : 0 ≤ (n + 1) * (n + 1) := Int.mul_nonneg (by omega) (by omega)
    have sq1 : (n + 1) * (n + 1) ≤ 100000 * 100000 := Int.mul_le_mul (by omega) (by omega) (by omega) (by decide)
    have sq2 : 90001 * (n + 1) * (n + 1) = 90001 * ((n + 1) * (n + 1)) := Int.mul_assoc _ _ _
    repeat (first | with_reducible refine wp_par3 ?_ | with_reducible refine wp_par ?_ | with_reducible refine wp_seq ?_ | with_reducible refine wp_asg ?_ | with_reducible refine wp_ret ?_ | with_reducible refine wp_op ?_ | with_reducible refine wp_un ?_ | with_reducible refine wp_cb ?_ | with_reducible refine wp_cons ?_ | with_reducible refine wp_nil ?_ | with_reducible refine wp_c ?_ | with_reducible refine wp_andV ?_ | with_reducible refine wp_orV ?_ | with_reducible refine wp_notV ?_ | with_reducible refine wp_test ?_ | with_reducible refine wp_not ?_ | with_reducible refine wp_tup ?_ | with_reducible refine wp_lst ?_ | with_reducible refine wp_call ?_ | with_reducible refine w_add ?_ | with_reducible refine w_sub ?_ | with_reducible refine w_int ?_ | ((with_reducible show wp (xVar _ _) _ _); refine wp_var rfl ?_) | ((with_reducible show wp (dMul _ _) _ _); refine w_mul (by first | exact .inl (by omega) | exact .inr (by omega)) ?_) | ((with_reducible show wp (dMod _ _) _ _); refine w_mod (by omega) ?_) | ((with_reducible show wp (dDiv _ _) _ _); refine w_div (by omega) (by omega) ?_) | ((with_reducible show wp (dPow _ _) _ _); refine w_pow (by first | omega | (constructor <;> omega)) (by omega) ?_) | ((with_reducible show wp (dIxLo _ _) _ _); refine wp_of rfl ?_) | ((with_reducible show wp (dGt _ _) _ _); refine wp_of rfl ?_) | ((with_reducible show wp (dLen _) _ _); refine wp_of rfl ?_) | ((with_reducible show wp (dNeg _) _ _); refine wp_of rfl ?_) | ((with_reducible show wp (dEq _ _) _ _); refine wp_of rfl ?_) | refine ⟨Nat.le_of_ble_eq_true rfl, ?_⟩ | refine ⟨_, rfl, ?_⟩ | refine ⟨_, _, _, rfl, ?_⟩ | refine ⟨_, _, rfl, ?_⟩ | dsimp only)
    refine q _ _ (Int.emod_nonneg _ (by omega)) (Int.emod_lt_of_pos _ u0) ⟨_, _, _, .inl ⟨rfl, rfl⟩, o0, m0, m1, by omega, by omega⟩
theorem w_take1 {k : Nat} {u : Int} {a : Dat} {o m n : Int} {C : Dat → List Dat → Prop} (o0 : 0 ≤ o) (m0 : 0 ≤ m) (m1 : m < 2305843009213693921) (n0 : 0 ≤ n) (nk : n + ((k + 1 : Nat) : Int) ≤ 100000) (u0 : 0 < u) (u1 : u < 2 ^ 200) (q : ∀ r S', 0 ≤ r → r < u → Pot 1 k S' → C (.int r) S') : wp (L__law_take [.loc 1, .int u]) [a, .lst [.int o, .int m, .int n]] C := by
  refine wp_run (wp_seq (wp_if (wp_test (wp_of (a := .bl (decide (0 < o))) rfl ⟨_, rfl, fun h => ?_, fun h => ?_⟩))))
  · have h := of_decide_eq_true h
    refine wp_seq (wp_asg (wp_op (wp_of (a := .int o) rfl (wp_of (a := .int u) rfl (w_mod u0 ⟨_, rfl, ?_⟩)))))
    refine wp_seq (wp_bind (wp_op (wp_of (a := .int o) rfl (wp_of (a := .int u) rfl (w_div u0 u1 ?_)))))
    refine wp_of rfl ?_
    refine wp_ret (wp_of rfl ?_)
    exact q _ _ (Int.emod_nonneg _ (by omega)) (Int.emod_lt_of_pos _ u0) ⟨_, _, _, .inr (.inl ⟨_, rfl, rfl⟩), Int.ediv_nonneg o0 (by omega), m0, m1, n0, by omega⟩
  · refine wp_of rfl ?_
    refine wp_seq (wp_of rfl ?_)
    have l5 : 0 ≤ (n + 1) % 5 ∧ (n + 1) % 5 < 5 := ⟨Int.emod_nonneg _ (by decide), Int.emod_lt_of_pos _ (by decide)⟩
    refine wp_seq (wp_asg (wp_op (wp_of (a := .lst [.int 2147483647, .int 2147483629, .int 2147483587, .int 2147483579, .int 2147483563]) rfl (wp_of (a := .int ((n + 1) % 5)) rfl ?_))))
    have pr : ∃ pr : Int, 2147483563 ≤ pr ∧ pr ≤ 2147483647 ∧ atI [Dat.int 2147483647, .int 2147483629, .int 2147483587, .int 2147483579, .int 2147483563] ((n + 1) % 5) = some (.int pr) := by
      generalize (n + 1) % 5 = i at l5 ⊢
      have : i = 0 ∨ i = 1 ∨ i = 2 ∨ i = 3 ∨ i = 4 := by omega
      rcases this with rfl | rfl | rfl | rfl | rfl <;> exact ⟨_, by decide, by decide, rfl⟩
    obtain ⟨pr, p0, p1, pe⟩ := pr
    refine wp_of (S' := _) (show M.opt (atI [Dat.int 2147483647, .int 2147483629, .int 2147483587, .int 2147483579, .int 2147483563] ((n + 1) % 5)) _ = .ok (.int pr) _ by rw [pe]; rfl) ⟨_, rfl, ?_⟩
    have sq0 : 0 ≤ (n + 1) * (n + 1) := Int.mul_nonneg (by omega) (by omega)
    have sq1 : (n + 1) * (n + 1) ≤ 100000 * 100000 := Int.mul_le_mul (by omega) (by omega) (by omega) (by decide)
    have sq2 : 90001 * (n + 1) * (n + 1) = 90001 * ((n + 1) * (n + 1)) := Int.mul_assoc _ _ _
    repeat (first | with_reducible refine wp_par3 ?_ | with_reducible refine wp_par ?_ | with_reducible refine wp_seq ?_ | with_reducible refine wp_asg ?_ | with_reducible refine wp_ret ?_ | with_reducible refine wp_op ?_ | with_reducible refine wp_un ?_ | with_reducible refine wp_cb ?_ | with_reducible refine wp_cons ?_ | with_reducible refine wp_nil ?_ | with_reducible refine wp_c ?_ | with_reducible refine wp_andV ?_ | with_reducible refine wp_orV ?_ | with_reducible refine wp_notV ?_ | with_reducible refine wp_test ?_ | with_reducible refine wp_not ?_ | with_reducible refine wp_tup ?_ | with_reducible refine wp_lst ?_ | with_reducible refine wp_call ?_ | with_reducible refine w_add ?_ | with_reducible refine w_sub ?_ | with_reducible refine w_int ?_ | ((with_reducible show wp (xVar _ _) _ _); refine wp_var rfl ?_) | ((with_reducible show wp (dMul _ _) _ _); refine w_mul (by first | exact .inl (by omega) | exact .inr (by omega)) ?_) | ((with_reducible show wp (dMod _ _) _ _); refine w_mod (by omega) ?_) | ((with_reducible show wp (dDiv _ _) _ _); refine w_div (by omega) (by omega) ?_) | ((with_reducible show wp (dPow _ _) _ _); refine w_pow (by first | omega | (constructor <;> omega)) (by omega) ?_) | ((with_reducible show wp (dIxLo _ _) _ _); refine wp_of rfl ?_) | ((with_reducible show wp (dGt _ _) _ _); refine wp_of rfl ?_) | ((with_reducible show wp (dLen _) _ _); refine wp_of rfl ?_) | ((with_reducible show wp (dNeg _) _ _); refine wp_of rfl ?_) | ((with_reducible show wp (dEq _ _) _ _); refine wp_of rfl ?_) | refine ⟨Nat.le_of_ble_eq_true rfl, ?_⟩ | refine ⟨_, rfl, ?_⟩ | refine ⟨_, _, _, rfl, ?_⟩ | refine ⟨_, _, rfl, ?_⟩ | dsimp only)
    refine q _ _ (Int.emod_nonneg _ (by omega)) (Int.emod_lt_of_pos _ u0) ⟨_, _, _, .inr (.inl ⟨_, rfl, rfl⟩), o0, m0, m1, by omega, by omega⟩
theorem w_take2 {k : Nat} {u : Int} {a b : Dat} {o m n : Int} {C : Dat → List Dat → Prop} (o0 : 0 ≤ o) (m0 : 0 ≤ m) (m1 : m < 2305843009213693921) (n0 : 0 ≤ n) (nk : n + ((k + 1 : Nat) : Int) ≤ 100000) (u0 : 0 < u) (u1 : u < 2 ^ 200) (q : ∀ r S', 0 ≤ r → r < u → Pot 2 k S' → C (.int r) S') : wp (L__law_take [.loc 2, .int u]) [a, b, .lst [.int o, .int m, .int n]] C := by
  refine wp_run (wp_seq (wp_if (wp_test (wp_of (a := .bl (decide (0 < o))) rfl ⟨_, rfl, fun h => ?_, fun h => ?_⟩))))
  · have h := of_decide_eq_true h
    refine wp_seq (wp_asg (wp_op (wp_of (a := .int o) rfl (wp_of (a := .int u) rfl (w_mod u0 ⟨_, rfl, ?_⟩)))))
    refine wp_seq (wp_bind (wp_op (wp_of (a := .int o) rfl (wp_of (a := .int u) rfl (w_div u0 u1 ?_)))))
    refine wp_of rfl ?_
    refine wp_ret (wp_of rfl ?_)
    exact q _ _ (Int.emod_nonneg _ (by omega)) (Int.emod_lt_of_pos _ u0) ⟨_, _, _, .inr (.inr ⟨_, _, rfl, rfl⟩), Int.ediv_nonneg o0 (by omega), m0, m1, n0, by omega⟩
  · refine wp_of rfl ?_
    refine wp_seq (wp_of rfl ?_)
    have l5 : 0 ≤ (n + 1) % 5 ∧ (n + 1) % 5 < 5 := ⟨Int.emod_nonneg _ (by decide), Int.emod_lt_of_pos _ (by decide)⟩
    refine wp_seq (wp_asg (wp_op (wp_of (a := .lst [.int 2147483647, .int 2147483629, .int 2147483587, .int 2147483579, .int 2147483563]) rfl (wp_of (a := .int ((n + 1) % 5)) rfl ?_))))
    have pr : ∃ pr : Int, 2147483563 ≤ pr ∧ pr ≤ 2147483647 ∧ atI [Dat.int 2147483647, .int 2147483629, .int 2147483587, .int 2147483579, .int 2147483563] ((n + 1) % 5) = some (.int pr) := by
      generalize (n + 1) % 5 = i at l5 ⊢
      have : i = 0 ∨ i = 1 ∨ i = 2 ∨ i = 3 ∨ i = 4 := by omega
      rcases this with rfl | rfl | rfl | rfl | rfl <;> exact ⟨_, by decide, by decide, rfl⟩
    obtain ⟨pr, p0, p1, pe⟩ := pr
    refine wp_of (S' := _) (show M.opt (atI [Dat.int 2147483647, .int 2147483629, .int 2147483587, .int 2147483579, .int 2147483563] ((n + 1) % 5)) _ = .ok (.int pr) _ by rw [pe]; rfl) ⟨_, rfl, ?_⟩
    have sq0 : 0 ≤ (n + 1) * (n + 1) := Int.mul_nonneg (by omega) (by omega)
    have sq1 : (n + 1) * (n + 1) ≤ 100000 * 100000 := Int.mul_le_mul (by omega) (by omega) (by omega) (by decide)
    have sq2 : 90001 * (n + 1) * (n + 1) = 90001 * ((n + 1) * (n + 1)) := Int.mul_assoc _ _ _
    repeat (first | with_reducible refine wp_par3 ?_ | with_reducible refine wp_par ?_ | with_reducible refine wp_seq ?_ | with_reducible refine wp_asg ?_ | with_reducible refine wp_ret ?_ | with_reducible refine wp_op ?_ | with_reducible refine wp_un ?_ | with_reducible refine wp_cb ?_ | with_reducible refine wp_cons ?_ | with_reducible refine wp_nil ?_ | with_reducible refine wp_c ?_ | with_reducible refine wp_andV ?_ | with_reducible refine wp_orV ?_ | with_reducible refine wp_notV ?_ | with_reducible refine wp_test ?_ | with_reducible refine wp_not ?_ | with_reducible refine wp_tup ?_ | with_reducible refine wp_lst ?_ | with_reducible refine wp_call ?_ | with_reducible refine w_add ?_ | with_reducible refine w_sub ?_ | with_reducible refine w_int ?_ | ((with_reducible show wp (xVar _ _) _ _); refine wp_var rfl ?_) | ((with_reducible show wp (dMul _ _) _ _); refine w_mul (by first | exact .inl (by omega) | exact .inr (by omega)) ?_) | ((with_reducible show wp (dMod _ _) _ _); refine w_mod (by omega) ?_) | ((with_reducible show wp (dDiv _ _) _ _); refine w_div (by omega) (by omega) ?_) | ((with_reducible show wp (dPow _ _) _ _); refine w_pow (by first | omega | (constructor <;> omega)) (by omega) ?_) | ((with_reducible show wp (dIxLo _ _) _ _); refine wp_of rfl ?_) | ((with_reducible show wp (dGt _ _) _ _); refine wp_of rfl ?_) | ((with_reducible show wp (dLen _) _ _); refine wp_of rfl ?_) | ((with_reducible show wp (dNeg _) _ _); refine wp_of rfl ?_) | ((with_reducible show wp (dEq _ _) _ _); refine wp_of rfl ?_) | refine ⟨Nat.le_of_ble_eq_true rfl, ?_⟩ | refine ⟨_, rfl, ?_⟩ | refine ⟨_, _, _, rfl, ?_⟩ | refine ⟨_, _, rfl, ?_⟩ | dsimp only)
    refine q _ _ (Int.emod_nonneg _ (by omega)) (Int.emod_lt_of_pos _ u0) ⟨_, _, _, .inr (.inr ⟨_, _, rfl, rfl⟩), o0, m0, m1, by omega, by omega⟩
theorem w_take {i k : Nat} {S : List Dat} {u : Int} {C : Dat → List Dat → Prop} (h : Pot i (k + 1) S) (u0 : 0 < u) (u1 : u < 2 ^ 200) (q : ∀ r S', 0 ≤ r → r < u → Pot i k S' → C (.int r) S') : wp (L__law_take [.loc i, .int u]) S C := by
  obtain ⟨o, m, n, h, o0, m0, m1, n0, nk⟩ := h
  rcases h with ⟨rfl, rfl⟩ | ⟨a, rfl, rfl⟩ | ⟨a, b, rfl, rfl⟩
  · exact w_take0 o0 m0 m1 n0 nk u0 u1 q
  · exact w_take1 o0 m0 m1 n0 nk u0 u1 q
  · exact w_take2 o0 m0 m1 n0 nk u0 u1 q
end Zd

namespace Zd
open PySem PySem.Spec PyProof.Rows L2 Zg
theorem at_nat {α : Type} {xs : List α} {r : Int} (h0 : 0 ≤ r) (h1 : r < xs.length) : ∃ x, atI xs r = some x ∧ x ∈ xs := by
  obtain ⟨n, rfl⟩ : ∃ n : Nat, r = n := ⟨r.toNat, (Int.toNat_of_nonneg h0).symm⟩
  have lt : n < xs.length := by omega
  refine ⟨xs[n], ?_, List.getElem_mem lt⟩
  unfold atI ixN
  have e : ¬ ((n : Int) < 0) := by omega
  simp [e, lt]
theorem w_of {k : Nat} {S : List Dat} {xs : List Dat} {C : Dat → List Dat → Prop} (h : Pot ℓ (k + 1) S) (l0 : 0 < xs.length) (l1 : xs.length ≤ 1000) (q : ∀ x S', x ∈ xs → Pot ℓ k S' → C x S') : wp (L__law_of [.loc ℓ, .lst xs]) S C := by
  refine wp_run ?_
  repeat (first | with_reducible refine wp_par3 ?_ | with_reducible refine wp_par ?_ | with_reducible refine wp_seq ?_ | with_reducible refine wp_asg ?_ | with_reducible refine wp_ret ?_ | with_reducible refine wp_op ?_ | with_reducible refine wp_un ?_ | with_reducible refine wp_cb ?_ | with_reducible refine wp_cons ?_ | with_reducible refine wp_nil ?_ | with_reducible refine wp_c ?_ | with_reducible refine wp_andV ?_ | with_reducible refine wp_orV ?_ | with_reducible refine wp_notV ?_ | with_reducible refine wp_test ?_ | with_reducible refine wp_not ?_ | with_reducible refine wp_tup ?_ | with_reducible refine wp_lst ?_ | with_reducible refine wp_call ?_ | with_reducible refine w_add ?_ | with_reducible refine w_sub ?_ | with_reducible refine w_int ?_ | ((with_reducible show wp (xVar _ _) _ _); refine wp_var rfl ?_) | ((with_reducible show wp (dMul _ _) _ _); refine w_mul (by first | exact .inl (by omega) | exact .inr (by omega)) ?_) | ((with_reducible show wp (dMod _ _) _ _); refine w_mod (by omega) ?_) | ((with_reducible show wp (dDiv _ _) _ _); refine w_div (by omega) (by omega) ?_) | ((with_reducible show wp (dPow _ _) _ _); refine w_pow (by first | omega | (constructor <;> omega)) (by omega) ?_) | ((with_reducible show wp (dIxLo _ _) _ _); refine wp_of rfl ?_) | ((with_reducible show wp (dGt _ _) _ _); refine wp_of rfl ?_) | ((with_reducible show wp (dLen _) _ _); refine wp_of rfl ?_) | ((with_reducible show wp (dNeg _) _ _); refine wp_of rfl ?_) | ((with_reducible show wp (dEq _ _) _ _); refine wp_of rfl ?_) | refine ⟨Nat.le_of_ble_eq_true rfl, ?_⟩ | refine ⟨_, rfl, ?_⟩ | refine ⟨_, _, _, rfl, ?_⟩ | refine ⟨_, _, rfl, ?_⟩ | dsimp only)
  refine w_take h (by omega) (by omega) fun r S' r0 r1 hp => ?_
  obtain ⟨x, ex, mx⟩ := at_nat r0 r1
  refine wp_of (show M.opt (atI xs r) S' = .ok x S' by rw [ex]; rfl) ?_
  exact q x S' mx hp
theorem wp_par3 {S : List Dat} {ρ : Env} {i j k : Nat} {l : Env → M (List Dat)} {C : Flow → List Dat → Prop} (h : wp (l ρ) S fun ds S' => ∃ a b c, ds = [a, b, c] ∧ C (.nx (((ρ.set i (some a)).set j (some b)).set k (some c))) S') : wp (sPar3 i j k l ρ) S C := wp_bind (wp_mono h fun ds S' ⟨a, b, c, e, q⟩ => by subst e; exact q)
theorem wp_par {S : List Dat} {ρ : Env} {i j : Nat} {l : Env → M (List Dat)} {C : Flow → List Dat → Prop} (h : wp (l ρ) S fun ds S' => ∃ a b, ds = [a, b] ∧ C (.nx ((ρ.set i (some a)).set j (some b))) S') : wp (sPar i j l ρ) S C := wp_bind (wp_mono h fun ds S' ⟨a, b, e, q⟩ => by subst e; exact q)
theorem w_ofS {k : Nat} {S : List Dat} {C : Dat → List Dat → Prop} (ss : List Str) (h : Pot ℓ (k + 1) S) (l0 : 0 < ss.length) (l1 : ss.length ≤ 1000) (q : ∀ x S', x ∈ ss → Pot ℓ k S' → C (.str x) S') : wp (L__law_of [.loc ℓ, .lst (ss.map .str)]) S C :=
  w_of h (by rw [List.length_map]; exact l0) (by rw [List.length_map]; exact l1) fun x S' mx hp => by
    obtain ⟨s, ms, rfl⟩ := List.mem_map.mp mx
    exact q s S' ms hp
theorem w_ofI {k : Nat} {S : List Dat} {C : Dat → List Dat → Prop} (ss : List Int) (h : Pot ℓ (k + 1) S) (l0 : 0 < ss.length) (l1 : ss.length ≤ 1000) (q : ∀ x S', x ∈ ss → Pot ℓ k S' → C (.int x) S') : wp (L__law_of [.loc ℓ, .lst (ss.map .int)]) S C :=
  w_of h (by rw [List.length_map]; exact l0) (by rw [List.length_map]; exact l1) fun x S' mx hp => by
    obtain ⟨s, ms, rfl⟩ := List.mem_map.mp mx
    exact q s S' ms hp
abbrev NMS : List Str := ["a", "id", "back", "no", "up", "fill", "empty", "anew", "narrow", "cut", "grow", "zzzzzzzz", "down"]
theorem w_name {k : Nat} {S : List Dat} {C : Dat → List Dat → Prop} (h : Pot ℓ (k + 1) S) (q : ∀ x S', x ∈ NMS → Pot ℓ k S' → C (.str x) S') : wp (L__law_name [.loc ℓ]) S C := by
  refine wp_run ?_
  repeat (first | with_reducible refine wp_par3 ?_ | with_reducible refine wp_par ?_ | with_reducible refine wp_seq ?_ | with_reducible refine wp_asg ?_ | with_reducible refine wp_ret ?_ | with_reducible refine wp_op ?_ | with_reducible refine wp_un ?_ | with_reducible refine wp_cb ?_ | with_reducible refine wp_cons ?_ | with_reducible refine wp_nil ?_ | with_reducible refine wp_c ?_ | with_reducible refine wp_andV ?_ | with_reducible refine wp_orV ?_ | with_reducible refine wp_notV ?_ | with_reducible refine wp_test ?_ | with_reducible refine wp_not ?_ | with_reducible refine wp_tup ?_ | with_reducible refine wp_lst ?_ | with_reducible refine wp_call ?_ | with_reducible refine w_add ?_ | with_reducible refine w_sub ?_ | with_reducible refine w_int ?_ | ((with_reducible show wp (xVar _ _) _ _); refine wp_var rfl ?_) | ((with_reducible show wp (dMul _ _) _ _); refine w_mul (by first | exact .inl (by omega) | exact .inr (by omega)) ?_) | ((with_reducible show wp (dMod _ _) _ _); refine w_mod (by omega) ?_) | ((with_reducible show wp (dDiv _ _) _ _); refine w_div (by omega) (by omega) ?_) | ((with_reducible show wp (dPow _ _) _ _); refine w_pow (by first | omega | (constructor <;> omega)) (by omega) ?_) | ((with_reducible show wp (dIxLo _ _) _ _); refine wp_of rfl ?_) | ((with_reducible show wp (dGt _ _) _ _); refine wp_of rfl ?_) | ((with_reducible show wp (dLen _) _ _); refine wp_of rfl ?_) | ((with_reducible show wp (dNeg _) _ _); refine wp_of rfl ?_) | ((with_reducible show wp (dEq _ _) _ _); refine wp_of rfl ?_) | refine ⟨Nat.le_of_ble_eq_true rfl, ?_⟩ | refine ⟨_, rfl, ?_⟩ | refine ⟨_, _, _, rfl, ?_⟩ | refine ⟨_, _, rfl, ?_⟩ | dsimp only)
  exact w_ofS NMS h (by decide) (by decide) fun x S' mx hp => q x S' mx hp
abbrev WDS : List Str := ["cut", "empty", "refuse", "anew", "narrow", "wide", "add", "drop", "up", "no up", "down", "no down", "fill", "release", "fill back", "withdraw", "grow", "purge", "there", "begin", "end", "visit", "set", "copy", "come", "read", "match", "order", "ref"]
/-- a drawn part: a short text, a number -/
def Fl (d : Dat) : Prop := (∃ s : Str, d = .str s ∧ (s ∈ NMS ∨ s ∈ WDS)) ∨ ∃ i : Int, d = .int i ∧ -(10 ^ 19) ≤ i ∧ i ≤ 10 ^ 19
/-- a drawn step -/
def StepD (d : Dat) : Prop := ∃ ds, d = .tup ds ∧ ds.length ≤ 4 ∧ 2 ≤ ds.length ∧ ∀ x ∈ ds, Fl x
theorem fl_s {s : Str} (h : (s ∈ NMS ∨ s ∈ WDS)) : Fl (.str s) := .inl ⟨s, rfl, h⟩
theorem w_step {k : Nat} {S : List Dat} {C : Dat → List Dat → Prop} (h : Pot ℓ (k + 7) S) (q : ∀ d S', StepD d → Pot ℓ k S' → C d S') : wp (L__law_step [.loc ℓ]) S C := by
  refine wp_run ?_
  repeat (first | with_reducible refine wp_par3 ?_ | with_reducible refine wp_par ?_ | with_reducible refine wp_seq ?_ | with_reducible refine wp_asg ?_ | with_reducible refine wp_ret ?_ | with_reducible refine wp_op ?_ | with_reducible refine wp_un ?_ | with_reducible refine wp_cb ?_ | with_reducible refine wp_cons ?_ | with_reducible refine wp_nil ?_ | with_reducible refine wp_c ?_ | with_reducible refine wp_andV ?_ | with_reducible refine wp_orV ?_ | with_reducible refine wp_notV ?_ | with_reducible refine wp_test ?_ | with_reducible refine wp_not ?_ | with_reducible refine wp_tup ?_ | with_reducible refine wp_lst ?_ | with_reducible refine wp_call ?_ | with_reducible refine w_add ?_ | with_reducible refine w_sub ?_ | with_reducible refine w_int ?_ | ((with_reducible show wp (xVar _ _) _ _); refine wp_var rfl ?_) | ((with_reducible show wp (dMul _ _) _ _); refine w_mul (by first | exact .inl (by omega) | exact .inr (by omega)) ?_) | ((with_reducible show wp (dMod _ _) _ _); refine w_mod (by omega) ?_) | ((with_reducible show wp (dDiv _ _) _ _); refine w_div (by omega) (by omega) ?_) | ((with_reducible show wp (dPow _ _) _ _); refine w_pow (by first | omega | (constructor <;> omega)) (by omega) ?_) | ((with_reducible show wp (dIxLo _ _) _ _); refine wp_of rfl ?_) | ((with_reducible show wp (dGt _ _) _ _); refine wp_of rfl ?_) | ((with_reducible show wp (dLen _) _ _); refine wp_of rfl ?_) | ((with_reducible show wp (dNeg _) _ _); refine wp_of rfl ?_) | ((with_reducible show wp (dEq _ _) _ _); refine wp_of rfl ?_) | refine ⟨Nat.le_of_ble_eq_true rfl, ?_⟩ | refine ⟨_, rfl, ?_⟩ | refine ⟨_, _, _, rfl, ?_⟩ | refine ⟨_, _, rfl, ?_⟩ | dsimp only)
  refine w_name h fun nm S1 mnm h1 => ?_
  repeat (first | with_reducible refine wp_par3 ?_ | with_reducible refine wp_par ?_ | with_reducible refine wp_seq ?_ | with_reducible refine wp_asg ?_ | with_reducible refine wp_ret ?_ | with_reducible refine wp_op ?_ | with_reducible refine wp_un ?_ | with_reducible refine wp_cb ?_ | with_reducible refine wp_cons ?_ | with_reducible refine wp_nil ?_ | with_reducible refine wp_c ?_ | with_reducible refine wp_andV ?_ | with_reducible refine wp_orV ?_ | with_reducible refine wp_notV ?_ | with_reducible refine wp_test ?_ | with_reducible refine wp_not ?_ | with_reducible refine wp_tup ?_ | with_reducible refine wp_lst ?_ | with_reducible refine wp_call ?_ | with_reducible refine w_add ?_ | with_reducible refine w_sub ?_ | with_reducible refine w_int ?_ | ((with_reducible show wp (xVar _ _) _ _); refine wp_var rfl ?_) | ((with_reducible show wp (dMul _ _) _ _); refine w_mul (by first | exact .inl (by omega) | exact .inr (by omega)) ?_) | ((with_reducible show wp (dMod _ _) _ _); refine w_mod (by omega) ?_) | ((with_reducible show wp (dDiv _ _) _ _); refine w_div (by omega) (by omega) ?_) | ((with_reducible show wp (dPow _ _) _ _); refine w_pow (by first | omega | (constructor <;> omega)) (by omega) ?_) | ((with_reducible show wp (dIxLo _ _) _ _); refine wp_of rfl ?_) | ((with_reducible show wp (dGt _ _) _ _); refine wp_of rfl ?_) | ((with_reducible show wp (dLen _) _ _); refine wp_of rfl ?_) | ((with_reducible show wp (dNeg _) _ _); refine wp_of rfl ?_) | ((with_reducible show wp (dEq _ _) _ _); refine wp_of rfl ?_) | refine ⟨Nat.le_of_ble_eq_true rfl, ?_⟩ | refine ⟨_, rfl, ?_⟩ | refine ⟨_, _, _, rfl, ?_⟩ | refine ⟨_, _, rfl, ?_⟩ | dsimp only)
  refine w_ofS ["cut", "empty", "refuse"] h1 (by decide) (by decide) fun ru S2 mru h2 => ?_
  repeat (first | with_reducible refine wp_par3 ?_ | with_reducible refine wp_par ?_ | with_reducible refine wp_seq ?_ | with_reducible refine wp_asg ?_ | with_reducible refine wp_ret ?_ | with_reducible refine wp_op ?_ | with_reducible refine wp_un ?_ | with_reducible refine wp_cb ?_ | with_reducible refine wp_cons ?_ | with_reducible refine wp_nil ?_ | with_reducible refine wp_c ?_ | with_reducible refine wp_andV ?_ | with_reducible refine wp_orV ?_ | with_reducible refine wp_notV ?_ | with_reducible refine wp_test ?_ | with_reducible refine wp_not ?_ | with_reducible refine wp_tup ?_ | with_reducible refine wp_lst ?_ | with_reducible refine wp_call ?_ | with_reducible refine w_add ?_ | with_reducible refine w_sub ?_ | with_reducible refine w_int ?_ | ((with_reducible show wp (xVar _ _) _ _); refine wp_var rfl ?_) | ((with_reducible show wp (dMul _ _) _ _); refine w_mul (by first | exact .inl (by omega) | exact .inr (by omega)) ?_) | ((with_reducible show wp (dMod _ _) _ _); refine w_mod (by omega) ?_) | ((with_reducible show wp (dDiv _ _) _ _); refine w_div (by omega) (by omega) ?_) | ((with_reducible show wp (dPow _ _) _ _); refine w_pow (by first | omega | (constructor <;> omega)) (by omega) ?_) | ((with_reducible show wp (dIxLo _ _) _ _); refine wp_of rfl ?_) | ((with_reducible show wp (dGt _ _) _ _); refine wp_of rfl ?_) | ((with_reducible show wp (dLen _) _ _); refine wp_of rfl ?_) | ((with_reducible show wp (dNeg _) _ _); refine wp_of rfl ?_) | ((with_reducible show wp (dEq _ _) _ _); refine wp_of rfl ?_) | refine ⟨Nat.le_of_ble_eq_true rfl, ?_⟩ | refine ⟨_, rfl, ?_⟩ | refine ⟨_, _, _, rfl, ?_⟩ | refine ⟨_, _, rfl, ?_⟩ | dsimp only)
  refine w_ofS ["anew", "empty"] h2 (by decide) (by decide) fun ma S3 mma h3 => ?_
  repeat (first | with_reducible refine wp_par3 ?_ | with_reducible refine wp_par ?_ | with_reducible refine wp_seq ?_ | with_reducible refine wp_asg ?_ | with_reducible refine wp_ret ?_ | with_reducible refine wp_op ?_ | with_reducible refine wp_un ?_ | with_reducible refine wp_cb ?_ | with_reducible refine wp_cons ?_ | with_reducible refine wp_nil ?_ | with_reducible refine wp_c ?_ | with_reducible refine wp_andV ?_ | with_reducible refine wp_orV ?_ | with_reducible refine wp_notV ?_ | with_reducible refine wp_test ?_ | with_reducible refine wp_not ?_ | with_reducible refine wp_tup ?_ | with_reducible refine wp_lst ?_ | with_reducible refine wp_call ?_ | with_reducible refine w_add ?_ | with_reducible refine w_sub ?_ | with_reducible refine w_int ?_ | ((with_reducible show wp (xVar _ _) _ _); refine wp_var rfl ?_) | ((with_reducible show wp (dMul _ _) _ _); refine w_mul (by first | exact .inl (by omega) | exact .inr (by omega)) ?_) | ((with_reducible show wp (dMod _ _) _ _); refine w_mod (by omega) ?_) | ((with_reducible show wp (dDiv _ _) _ _); refine w_div (by omega) (by omega) ?_) | ((with_reducible show wp (dPow _ _) _ _); refine w_pow (by first | omega | (constructor <;> omega)) (by omega) ?_) | ((with_reducible show wp (dIxLo _ _) _ _); refine wp_of rfl ?_) | ((with_reducible show wp (dGt _ _) _ _); refine wp_of rfl ?_) | ((with_reducible show wp (dLen _) _ _); refine wp_of rfl ?_) | ((with_reducible show wp (dNeg _) _ _); refine wp_of rfl ?_) | ((with_reducible show wp (dEq _ _) _ _); refine wp_of rfl ?_) | refine ⟨Nat.le_of_ble_eq_true rfl, ?_⟩ | refine ⟨_, rfl, ?_⟩ | refine ⟨_, _, _, rfl, ?_⟩ | refine ⟨_, _, rfl, ?_⟩ | dsimp only)
  refine w_ofI [0, 1, -1, 7, 255, 10 ^ 9, -10 ^ 17, 10 ^ 18 - 1] h3 (by decide) (by decide) fun nu S4 mnu h4 => ?_
  repeat (first | with_reducible refine wp_par3 ?_ | with_reducible refine wp_par ?_ | with_reducible refine wp_seq ?_ | with_reducible refine wp_asg ?_ | with_reducible refine wp_ret ?_ | with_reducible refine wp_op ?_ | with_reducible refine wp_un ?_ | with_reducible refine wp_cb ?_ | with_reducible refine wp_cons ?_ | with_reducible refine wp_nil ?_ | with_reducible refine wp_c ?_ | with_reducible refine wp_andV ?_ | with_reducible refine wp_orV ?_ | with_reducible refine wp_notV ?_ | with_reducible refine wp_test ?_ | with_reducible refine wp_not ?_ | with_reducible refine wp_tup ?_ | with_reducible refine wp_lst ?_ | with_reducible refine wp_call ?_ | with_reducible refine w_add ?_ | with_reducible refine w_sub ?_ | with_reducible refine w_int ?_ | ((with_reducible show wp (xVar _ _) _ _); refine wp_var rfl ?_) | ((with_reducible show wp (dMul _ _) _ _); refine w_mul (by first | exact .inl (by omega) | exact .inr (by omega)) ?_) | ((with_reducible show wp (dMod _ _) _ _); refine w_mod (by omega) ?_) | ((with_reducible show wp (dDiv _ _) _ _); refine w_div (by omega) (by omega) ?_) | ((with_reducible show wp (dPow _ _) _ _); refine w_pow (by first | omega | (constructor <;> omega)) (by omega) ?_) | ((with_reducible show wp (dIxLo _ _) _ _); refine wp_of rfl ?_) | ((with_reducible show wp (dGt _ _) _ _); refine wp_of rfl ?_) | ((with_reducible show wp (dLen _) _ _); refine wp_of rfl ?_) | ((with_reducible show wp (dNeg _) _ _); refine wp_of rfl ?_) | ((with_reducible show wp (dEq _ _) _ _); refine wp_of rfl ?_) | refine ⟨Nat.le_of_ble_eq_true rfl, ?_⟩ | refine ⟨_, rfl, ?_⟩ | refine ⟨_, _, _, rfl, ?_⟩ | refine ⟨_, _, rfl, ?_⟩ | dsimp only)
  refine w_take h4 (by decide) (by decide) fun r S5 r0 r1 h5 => ?_
  repeat (first | with_reducible refine wp_par3 ?_ | with_reducible refine wp_par ?_ | with_reducible refine wp_seq ?_ | with_reducible refine wp_asg ?_ | with_reducible refine wp_ret ?_ | with_reducible refine wp_op ?_ | with_reducible refine wp_un ?_ | with_reducible refine wp_cb ?_ | with_reducible refine wp_cons ?_ | with_reducible refine wp_nil ?_ | with_reducible refine wp_c ?_ | with_reducible refine wp_andV ?_ | with_reducible refine wp_orV ?_ | with_reducible refine wp_notV ?_ | with_reducible refine wp_test ?_ | with_reducible refine wp_not ?_ | with_reducible refine wp_tup ?_ | with_reducible refine wp_lst ?_ | with_reducible refine wp_call ?_ | with_reducible refine w_add ?_ | with_reducible refine w_sub ?_ | with_reducible refine w_int ?_ | ((with_reducible show wp (xVar _ _) _ _); refine wp_var rfl ?_) | ((with_reducible show wp (dMul _ _) _ _); refine w_mul (by first | exact .inl (by omega) | exact .inr (by omega)) ?_) | ((with_reducible show wp (dMod _ _) _ _); refine w_mod (by omega) ?_) | ((with_reducible show wp (dDiv _ _) _ _); refine w_div (by omega) (by omega) ?_) | ((with_reducible show wp (dPow _ _) _ _); refine w_pow (by first | omega | (constructor <;> omega)) (by omega) ?_) | ((with_reducible show wp (dIxLo _ _) _ _); refine wp_of rfl ?_) | ((with_reducible show wp (dGt _ _) _ _); refine wp_of rfl ?_) | ((with_reducible show wp (dLen _) _ _); refine wp_of rfl ?_) | ((with_reducible show wp (dNeg _) _ _); refine wp_of rfl ?_) | ((with_reducible show wp (dEq _ _) _ _); refine wp_of rfl ?_) | refine ⟨Nat.le_of_ble_eq_true rfl, ?_⟩ | refine ⟨_, rfl, ?_⟩ | refine ⟨_, _, _, rfl, ?_⟩ | refine ⟨_, _, rfl, ?_⟩ | dsimp only)
  refine w_ofS ["narrow", "wide"] h5 (by decide) (by decide) fun si S6 msi h6 => ?_
  repeat (first | with_reducible refine wp_par3 ?_ | with_reducible refine wp_par ?_ | with_reducible refine wp_seq ?_ | with_reducible refine wp_asg ?_ | with_reducible refine wp_ret ?_ | with_reducible refine wp_op ?_ | with_reducible refine wp_un ?_ | with_reducible refine wp_cb ?_ | with_reducible refine wp_cons ?_ | with_reducible refine wp_nil ?_ | with_reducible refine wp_c ?_ | with_reducible refine wp_andV ?_ | with_reducible refine wp_orV ?_ | with_reducible refine wp_notV ?_ | with_reducible refine wp_test ?_ | with_reducible refine wp_not ?_ | with_reducible refine wp_tup ?_ | with_reducible refine wp_lst ?_ | with_reducible refine wp_call ?_ | with_reducible refine w_add ?_ | with_reducible refine w_sub ?_ | with_reducible refine w_int ?_ | ((with_reducible show wp (xVar _ _) _ _); refine wp_var rfl ?_) | ((with_reducible show wp (dMul _ _) _ _); refine w_mul (by first | exact .inl (by omega) | exact .inr (by omega)) ?_) | ((with_reducible show wp (dMod _ _) _ _); refine w_mod (by omega) ?_) | ((with_reducible show wp (dDiv _ _) _ _); refine w_div (by omega) (by omega) ?_) | ((with_reducible show wp (dPow _ _) _ _); refine w_pow (by first | omega | (constructor <;> omega)) (by omega) ?_) | ((with_reducible show wp (dIxLo _ _) _ _); refine wp_of rfl ?_) | ((with_reducible show wp (dGt _ _) _ _); refine wp_of rfl ?_) | ((with_reducible show wp (dLen _) _ _); refine wp_of rfl ?_) | ((with_reducible show wp (dNeg _) _ _); refine wp_of rfl ?_) | ((with_reducible show wp (dEq _ _) _ _); refine wp_of rfl ?_) | refine ⟨Nat.le_of_ble_eq_true rfl, ?_⟩ | refine ⟨_, rfl, ?_⟩ | refine ⟨_, _, _, rfl, ?_⟩ | refine ⟨_, _, rfl, ?_⟩ | dsimp only)
  have fw : ∀ s : Str, s ∈ WDS → Fl (.str s) := fun s h => fl_s (.inr h)
  have f1 : Fl (.str nm) := fl_s (.inl mnm)
  have f2 : Fl (.str ru) := fw _ (by revert mru; simp only [List.mem_cons, List.not_mem_nil, or_false]; rintro (rfl | rfl | rfl) <;> decide)
  have f3 : Fl (.str ma) := fw _ (by revert mma; simp only [List.mem_cons, List.not_mem_nil, or_false]; rintro (rfl | rfl) <;> decide)
  have f4 : Fl (.str si) := fw _ (by revert msi; simp only [List.mem_cons, List.not_mem_nil, or_false]; rintro (rfl | rfl) <;> decide)
  have f5 : Fl (.int (nu + r - 1)) := .inr ⟨_, rfl, by
    revert mnu
    simp only [List.mem_cons, List.not_mem_nil, or_false]
    rintro (rfl | rfl | rfl | rfl | rfl | rfl | rfl | rfl) <;> omega⟩
  refine w_of h6 (Nat.le_of_ble_eq_true rfl) (Nat.le_of_ble_eq_true rfl) fun d S7 md h7 => q d S7 ?_ h7
  have mk2 : ∀ (a b : Dat), Fl a → Fl b → StepD (.tup [a, b]) := fun a b ha hb => ⟨_, rfl, Nat.le_of_ble_eq_true rfl, Nat.le_of_ble_eq_true rfl, fun x hx => by
    rcases List.mem_cons.mp hx with rfl | hx
    · exact ha
    · rw [List.mem_singleton.mp hx]; exact hb⟩
  have mk3 : ∀ (a b c : Dat), Fl a → Fl b → Fl c → StepD (.tup [a, b, c]) := fun a b c ha hb hc => ⟨_, rfl, Nat.le_of_ble_eq_true rfl, Nat.le_of_ble_eq_true rfl, fun x hx => by
    rcases List.mem_cons.mp hx with rfl | hx
    · exact ha
    rcases List.mem_cons.mp hx with rfl | hx
    · exact hb
    · rw [List.mem_singleton.mp hx]; exact hc⟩
  have mk4 : ∀ (a b c e : Dat), Fl a → Fl b → Fl c → Fl e → StepD (.tup [a, b, c, e]) := fun a b c e ha hb hc he => ⟨_, rfl, Nat.le_of_ble_eq_true rfl, Nat.le_of_ble_eq_true rfl, fun x hx => by
    rcases List.mem_cons.mp hx with rfl | hx
    · exact ha
    rcases List.mem_cons.mp hx with rfl | hx
    · exact hb
    rcases List.mem_cons.mp hx with rfl | hx
    · exact hc
    · rw [List.mem_singleton.mp hx]; exact he⟩
  simp only [List.mem_cons, List.mem_append, List.not_mem_nil, or_false] at md
  rcases md with ((rfl | rfl | rfl | rfl) | (rfl | rfl | rfl | rfl)) | (rfl | rfl | rfl | rfl)
  · exact mk2 _ _ (fw _ (by decide)) f1
  · exact mk3 _ _ _ (fw _ (by decide)) f1 f4
  · exact mk2 _ _ (fw _ (by decide)) f1
  · exact mk2 _ _ (fw _ (by decide)) f1
  · exact mk3 _ _ _ (fw _ (by decide)) f1 f2
  · exact mk2 _ _ (fw _ (by decide)) f1
  · exact mk3 _ _ _ (fw _ (by decide)) f1 f3
  · exact mk2 _ _ (fw _ (by decide)) f1
  · exact mk4 _ _ _ _ (fw _ (by decide)) f1 f3 f2
  · exact mk2 _ _ (fw _ (by decide)) f1
  · exact mk2 _ _ (fw _ (by decide)) f5
  · exact mk2 _ _ (fw _ (by decide)) f5
/-- a drawn event -/
def EvD (d : Dat) : Prop := ∃ ds, d = .tup ds ∧ ds.length ≤ 7 ∧ 2 ≤ ds.length ∧ ∀ x ∈ ds, Fl x ∨ StepD x
theorem all1 {P : Dat → Prop} {a : Dat} {l : List Dat} (h : P a) (k : ∀ x ∈ l, P x) : ∀ x ∈ a :: l, P x := fun x m => (List.mem_cons.mp m).elim (fun e => e ▸ h) (k x)
theorem all0 {P : Dat → Prop} : ∀ x ∈ ([] : List Dat), P x := nofun
theorem w_event {k : Nat} {S : List Dat} {C : Dat → List Dat → Prop} (h : Pot ℓ (k + 21) S) (q : ∀ d S', EvD d → Pot ℓ k S' → C d S') : wp (L__law_event [.loc ℓ]) S C := by
  refine wp_run ?_
  repeat (first | with_reducible refine wp_par3 ?_ | with_reducible refine wp_par ?_ | with_reducible refine wp_seq ?_ | with_reducible refine wp_asg ?_ | with_reducible refine wp_ret ?_ | with_reducible refine wp_op ?_ | with_reducible refine wp_un ?_ | with_reducible refine wp_cb ?_ | with_reducible refine wp_cons ?_ | with_reducible refine wp_nil ?_ | with_reducible refine wp_c ?_ | with_reducible refine wp_andV ?_ | with_reducible refine wp_orV ?_ | with_reducible refine wp_notV ?_ | with_reducible refine wp_test ?_ | with_reducible refine wp_not ?_ | with_reducible refine wp_tup ?_ | with_reducible refine wp_lst ?_ | with_reducible refine wp_call ?_ | with_reducible refine w_add ?_ | with_reducible refine w_sub ?_ | with_reducible refine w_int ?_ | ((with_reducible show wp (xVar _ _) _ _); refine wp_var rfl ?_) | ((with_reducible show wp (dMul _ _) _ _); refine w_mul (by first | exact .inl (by omega) | exact .inr (by omega)) ?_) | ((with_reducible show wp (dMod _ _) _ _); refine w_mod (by omega) ?_) | ((with_reducible show wp (dDiv _ _) _ _); refine w_div (by omega) (by omega) ?_) | ((with_reducible show wp (dPow _ _) _ _); refine w_pow (by first | omega | (constructor <;> omega)) (by omega) ?_) | ((with_reducible show wp (dIxLo _ _) _ _); refine wp_of rfl ?_) | ((with_reducible show wp (dGt _ _) _ _); refine wp_of rfl ?_) | ((with_reducible show wp (dLen _) _ _); refine wp_of rfl ?_) | ((with_reducible show wp (dNeg _) _ _); refine wp_of rfl ?_) | ((with_reducible show wp (dEq _ _) _ _); refine wp_of rfl ?_) | refine ⟨Nat.le_of_ble_eq_true rfl, ?_⟩ | refine ⟨_, rfl, ?_⟩ | refine ⟨_, _, _, rfl, ?_⟩ | refine ⟨_, _, rfl, ?_⟩ | dsimp only)
  refine w_name h fun nm S1 mnm h1 => ?_
  repeat (first | with_reducible refine wp_par3 ?_ | with_reducible refine wp_par ?_ | with_reducible refine wp_seq ?_ | with_reducible refine wp_asg ?_ | with_reducible refine wp_ret ?_ | with_reducible refine wp_op ?_ | with_reducible refine wp_un ?_ | with_reducible refine wp_cb ?_ | with_reducible refine wp_cons ?_ | with_reducible refine wp_nil ?_ | with_reducible refine wp_c ?_ | with_reducible refine wp_andV ?_ | with_reducible refine wp_orV ?_ | with_reducible refine wp_notV ?_ | with_reducible refine wp_test ?_ | with_reducible refine wp_not ?_ | with_reducible refine wp_tup ?_ | with_reducible refine wp_lst ?_ | with_reducible refine wp_call ?_ | with_reducible refine w_add ?_ | with_reducible refine w_sub ?_ | with_reducible refine w_int ?_ | ((with_reducible show wp (xVar _ _) _ _); refine wp_var rfl ?_) | ((with_reducible show wp (dMul _ _) _ _); refine w_mul (by first | exact .inl (by omega) | exact .inr (by omega)) ?_) | ((with_reducible show wp (dMod _ _) _ _); refine w_mod (by omega) ?_) | ((with_reducible show wp (dDiv _ _) _ _); refine w_div (by omega) (by omega) ?_) | ((with_reducible show wp (dPow _ _) _ _); refine w_pow (by first | omega | (constructor <;> omega)) (by omega) ?_) | ((with_reducible show wp (dIxLo _ _) _ _); refine wp_of rfl ?_) | ((with_reducible show wp (dGt _ _) _ _); refine wp_of rfl ?_) | ((with_reducible show wp (dLen _) _ _); refine wp_of rfl ?_) | ((with_reducible show wp (dNeg _) _ _); refine wp_of rfl ?_) | ((with_reducible show wp (dEq _ _) _ _); refine wp_of rfl ?_) | refine ⟨Nat.le_of_ble_eq_true rfl, ?_⟩ | refine ⟨_, rfl, ?_⟩ | refine ⟨_, _, _, rfl, ?_⟩ | refine ⟨_, _, rfl, ?_⟩ | dsimp only)
  refine w_name h1 fun ot S2 mot h2 => ?_
  repeat (first | with_reducible refine wp_par3 ?_ | with_reducible refine wp_par ?_ | with_reducible refine wp_seq ?_ | with_reducible refine wp_asg ?_ | with_reducible refine wp_ret ?_ | with_reducible refine wp_op ?_ | with_reducible refine wp_un ?_ | with_reducible refine wp_cb ?_ | with_reducible refine wp_cons ?_ | with_reducible refine wp_nil ?_ | with_reducible refine wp_c ?_ | with_reducible refine wp_andV ?_ | with_reducible refine wp_orV ?_ | with_reducible refine wp_notV ?_ | with_reducible refine wp_test ?_ | with_reducible refine wp_not ?_ | with_reducible refine wp_tup ?_ | with_reducible refine wp_lst ?_ | with_reducible refine wp_call ?_ | with_reducible refine w_add ?_ | with_reducible refine w_sub ?_ | with_reducible refine w_int ?_ | ((with_reducible show wp (xVar _ _) _ _); refine wp_var rfl ?_) | ((with_reducible show wp (dMul _ _) _ _); refine w_mul (by first | exact .inl (by omega) | exact .inr (by omega)) ?_) | ((with_reducible show wp (dMod _ _) _ _); refine w_mod (by omega) ?_) | ((with_reducible show wp (dDiv _ _) _ _); refine w_div (by omega) (by omega) ?_) | ((with_reducible show wp (dPow _ _) _ _); refine w_pow (by first | omega | (constructor <;> omega)) (by omega) ?_) | ((with_reducible show wp (dIxLo _ _) _ _); refine wp_of rfl ?_) | ((with_reducible show wp (dGt _ _) _ _); refine wp_of rfl ?_) | ((with_reducible show wp (dLen _) _ _); refine wp_of rfl ?_) | ((with_reducible show wp (dNeg _) _ _); refine wp_of rfl ?_) | ((with_reducible show wp (dEq _ _) _ _); refine wp_of rfl ?_) | refine ⟨Nat.le_of_ble_eq_true rfl, ?_⟩ | refine ⟨_, rfl, ?_⟩ | refine ⟨_, _, _, rfl, ?_⟩ | refine ⟨_, _, rfl, ?_⟩ | dsimp only)
  refine w_ofI [0, 1, 7, 300, -5, 10 ^ 17] h2 (by decide) (by decide) fun nu S3 mnu h3 => ?_
  repeat (first | with_reducible refine wp_par3 ?_ | with_reducible refine wp_par ?_ | with_reducible refine wp_seq ?_ | with_reducible refine wp_asg ?_ | with_reducible refine wp_ret ?_ | with_reducible refine wp_op ?_ | with_reducible refine wp_un ?_ | with_reducible refine wp_cb ?_ | with_reducible refine wp_cons ?_ | with_reducible refine wp_nil ?_ | with_reducible refine wp_c ?_ | with_reducible refine wp_andV ?_ | with_reducible refine wp_orV ?_ | with_reducible refine wp_notV ?_ | with_reducible refine wp_test ?_ | with_reducible refine wp_not ?_ | with_reducible refine wp_tup ?_ | with_reducible refine wp_lst ?_ | with_reducible refine wp_call ?_ | with_reducible refine w_add ?_ | with_reducible refine w_sub ?_ | with_reducible refine w_int ?_ | ((with_reducible show wp (xVar _ _) _ _); refine wp_var rfl ?_) | ((with_reducible show wp (dMul _ _) _ _); refine w_mul (by first | exact .inl (by omega) | exact .inr (by omega)) ?_) | ((with_reducible show wp (dMod _ _) _ _); refine w_mod (by omega) ?_) | ((with_reducible show wp (dDiv _ _) _ _); refine w_div (by omega) (by omega) ?_) | ((with_reducible show wp (dPow _ _) _ _); refine w_pow (by first | omega | (constructor <;> omega)) (by omega) ?_) | ((with_reducible show wp (dIxLo _ _) _ _); refine wp_of rfl ?_) | ((with_reducible show wp (dGt _ _) _ _); refine wp_of rfl ?_) | ((with_reducible show wp (dLen _) _ _); refine wp_of rfl ?_) | ((with_reducible show wp (dNeg _) _ _); refine wp_of rfl ?_) | ((with_reducible show wp (dEq _ _) _ _); refine wp_of rfl ?_) | refine ⟨Nat.le_of_ble_eq_true rfl, ?_⟩ | refine ⟨_, rfl, ?_⟩ | refine ⟨_, _, _, rfl, ?_⟩ | refine ⟨_, _, rfl, ?_⟩ | dsimp only)
  refine w_ofI [0, 1, 2, 999999999] h3 (by decide) (by decide) fun ro S4 mro h4 => ?_
  repeat (first | with_reducible refine wp_par3 ?_ | with_reducible refine wp_par ?_ | with_reducible refine wp_seq ?_ | with_reducible refine wp_asg ?_ | with_reducible refine wp_ret ?_ | with_reducible refine wp_op ?_ | with_reducible refine wp_un ?_ | with_reducible refine wp_cb ?_ | with_reducible refine wp_cons ?_ | with_reducible refine wp_nil ?_ | with_reducible refine wp_c ?_ | with_reducible refine wp_andV ?_ | with_reducible refine wp_orV ?_ | with_reducible refine wp_notV ?_ | with_reducible refine wp_test ?_ | with_reducible refine wp_not ?_ | with_reducible refine wp_tup ?_ | with_reducible refine wp_lst ?_ | with_reducible refine wp_call ?_ | with_reducible refine w_add ?_ | with_reducible refine w_sub ?_ | with_reducible refine w_int ?_ | ((with_reducible show wp (xVar _ _) _ _); refine wp_var rfl ?_) | ((with_reducible show wp (dMul _ _) _ _); refine w_mul (by first | exact .inl (by omega) | exact .inr (by omega)) ?_) | ((with_reducible show wp (dMod _ _) _ _); refine w_mod (by omega) ?_) | ((with_reducible show wp (dDiv _ _) _ _); refine w_div (by omega) (by omega) ?_) | ((with_reducible show wp (dPow _ _) _ _); refine w_pow (by first | omega | (constructor <;> omega)) (by omega) ?_) | ((with_reducible show wp (dIxLo _ _) _ _); refine wp_of rfl ?_) | ((with_reducible show wp (dGt _ _) _ _); refine wp_of rfl ?_) | ((with_reducible show wp (dLen _) _ _); refine wp_of rfl ?_) | ((with_reducible show wp (dNeg _) _ _); refine wp_of rfl ?_) | ((with_reducible show wp (dEq _ _) _ _); refine wp_of rfl ?_) | refine ⟨Nat.le_of_ble_eq_true rfl, ?_⟩ | refine ⟨_, rfl, ?_⟩ | refine ⟨_, _, _, rfl, ?_⟩ | refine ⟨_, _, rfl, ?_⟩ | dsimp only)
  refine w_ofI [0, 1, 3] h4 (by decide) (by decide) fun se S5 mse h5 => ?_
  repeat (first | with_reducible refine wp_par3 ?_ | with_reducible refine wp_par ?_ | with_reducible refine wp_seq ?_ | with_reducible refine wp_asg ?_ | with_reducible refine wp_ret ?_ | with_reducible refine wp_op ?_ | with_reducible refine wp_un ?_ | with_reducible refine wp_cb ?_ | with_reducible refine wp_cons ?_ | with_reducible refine wp_nil ?_ | with_reducible refine wp_c ?_ | with_reducible refine wp_andV ?_ | with_reducible refine wp_orV ?_ | with_reducible refine wp_notV ?_ | with_reducible refine wp_test ?_ | with_reducible refine wp_not ?_ | with_reducible refine wp_tup ?_ | with_reducible refine wp_lst ?_ | with_reducible refine wp_call ?_ | with_reducible refine w_add ?_ | with_reducible refine w_sub ?_ | with_reducible refine w_int ?_ | ((with_reducible show wp (xVar _ _) _ _); refine wp_var rfl ?_) | ((with_reducible show wp (dMul _ _) _ _); refine w_mul (by first | exact .inl (by omega) | exact .inr (by omega)) ?_) | ((with_reducible show wp (dMod _ _) _ _); refine w_mod (by omega) ?_) | ((with_reducible show wp (dDiv _ _) _ _); refine w_div (by omega) (by omega) ?_) | ((with_reducible show wp (dPow _ _) _ _); refine w_pow (by first | omega | (constructor <;> omega)) (by omega) ?_) | ((with_reducible show wp (dIxLo _ _) _ _); refine wp_of rfl ?_) | ((with_reducible show wp (dGt _ _) _ _); refine wp_of rfl ?_) | ((with_reducible show wp (dLen _) _ _); refine wp_of rfl ?_) | ((with_reducible show wp (dNeg _) _ _); refine wp_of rfl ?_) | ((with_reducible show wp (dEq _ _) _ _); refine wp_of rfl ?_) | refine ⟨Nat.le_of_ble_eq_true rfl, ?_⟩ | refine ⟨_, rfl, ?_⟩ | refine ⟨_, _, _, rfl, ?_⟩ | refine ⟨_, _, rfl, ?_⟩ | dsimp only)
  refine w_ofI [0, 1, 2, 9] h5 (by decide) (by decide) fun ed S6 med h6 => ?_
  repeat (first | with_reducible refine wp_par3 ?_ | with_reducible refine wp_par ?_ | with_reducible refine wp_seq ?_ | with_reducible refine wp_asg ?_ | with_reducible refine wp_ret ?_ | with_reducible refine wp_op ?_ | with_reducible refine wp_un ?_ | with_reducible refine wp_cb ?_ | with_reducible refine wp_cons ?_ | with_reducible refine wp_nil ?_ | with_reducible refine wp_c ?_ | with_reducible refine wp_andV ?_ | with_reducible refine wp_orV ?_ | with_reducible refine wp_notV ?_ | with_reducible refine wp_test ?_ | with_reducible refine wp_not ?_ | with_reducible refine wp_tup ?_ | with_reducible refine wp_lst ?_ | with_reducible refine wp_call ?_ | with_reducible refine w_add ?_ | with_reducible refine w_sub ?_ | with_reducible refine w_int ?_ | ((with_reducible show wp (xVar _ _) _ _); refine wp_var rfl ?_) | ((with_reducible show wp (dMul _ _) _ _); refine w_mul (by first | exact .inl (by omega) | exact .inr (by omega)) ?_) | ((with_reducible show wp (dMod _ _) _ _); refine w_mod (by omega) ?_) | ((with_reducible show wp (dDiv _ _) _ _); refine w_div (by omega) (by omega) ?_) | ((with_reducible show wp (dPow _ _) _ _); refine w_pow (by first | omega | (constructor <;> omega)) (by omega) ?_) | ((with_reducible show wp (dIxLo _ _) _ _); refine wp_of rfl ?_) | ((with_reducible show wp (dGt _ _) _ _); refine wp_of rfl ?_) | ((with_reducible show wp (dLen _) _ _); refine wp_of rfl ?_) | ((with_reducible show wp (dNeg _) _ _); refine wp_of rfl ?_) | ((with_reducible show wp (dEq _ _) _ _); refine wp_of rfl ?_) | refine ⟨Nat.le_of_ble_eq_true rfl, ?_⟩ | refine ⟨_, rfl, ?_⟩ | refine ⟨_, _, _, rfl, ?_⟩ | refine ⟨_, _, rfl, ?_⟩ | dsimp only)
  refine w_step h6 fun st S7 hst h7 => ?_
  repeat (first | with_reducible refine wp_par3 ?_ | with_reducible refine wp_par ?_ | with_reducible refine wp_seq ?_ | with_reducible refine wp_asg ?_ | with_reducible refine wp_ret ?_ | with_reducible refine wp_op ?_ | with_reducible refine wp_un ?_ | with_reducible refine wp_cb ?_ | with_reducible refine wp_cons ?_ | with_reducible refine wp_nil ?_ | with_reducible refine wp_c ?_ | with_reducible refine wp_andV ?_ | with_reducible refine wp_orV ?_ | with_reducible refine wp_notV ?_ | with_reducible refine wp_test ?_ | with_reducible refine wp_not ?_ | with_reducible refine wp_tup ?_ | with_reducible refine wp_lst ?_ | with_reducible refine wp_call ?_ | with_reducible refine w_add ?_ | with_reducible refine w_sub ?_ | with_reducible refine w_int ?_ | ((with_reducible show wp (xVar _ _) _ _); refine wp_var rfl ?_) | ((with_reducible show wp (dMul _ _) _ _); refine w_mul (by first | exact .inl (by omega) | exact .inr (by omega)) ?_) | ((with_reducible show wp (dMod _ _) _ _); refine w_mod (by omega) ?_) | ((with_reducible show wp (dDiv _ _) _ _); refine w_div (by omega) (by omega) ?_) | ((with_reducible show wp (dPow _ _) _ _); refine w_pow (by first | omega | (constructor <;> omega)) (by omega) ?_) | ((with_reducible show wp (dIxLo _ _) _ _); refine wp_of rfl ?_) | ((with_reducible show wp (dGt _ _) _ _); refine wp_of rfl ?_) | ((with_reducible show wp (dLen _) _ _); refine wp_of rfl ?_) | ((with_reducible show wp (dNeg _) _ _); refine wp_of rfl ?_) | ((with_reducible show wp (dEq _ _) _ _); refine wp_of rfl ?_) | refine ⟨Nat.le_of_ble_eq_true rfl, ?_⟩ | refine ⟨_, rfl, ?_⟩ | refine ⟨_, _, _, rfl, ?_⟩ | refine ⟨_, _, rfl, ?_⟩ | dsimp only)
  refine w_step h7 fun su S8 hsu h8 => ?_
  repeat (first | with_reducible refine wp_par3 ?_ | with_reducible refine wp_par ?_ | with_reducible refine wp_seq ?_ | with_reducible refine wp_asg ?_ | with_reducible refine wp_ret ?_ | with_reducible refine wp_op ?_ | with_reducible refine wp_un ?_ | with_reducible refine wp_cb ?_ | with_reducible refine wp_cons ?_ | with_reducible refine wp_nil ?_ | with_reducible refine wp_c ?_ | with_reducible refine wp_andV ?_ | with_reducible refine wp_orV ?_ | with_reducible refine wp_notV ?_ | with_reducible refine wp_test ?_ | with_reducible refine wp_not ?_ | with_reducible refine wp_tup ?_ | with_reducible refine wp_lst ?_ | with_reducible refine wp_call ?_ | with_reducible refine w_add ?_ | with_reducible refine w_sub ?_ | with_reducible refine w_int ?_ | ((with_reducible show wp (xVar _ _) _ _); refine wp_var rfl ?_) | ((with_reducible show wp (dMul _ _) _ _); refine w_mul (by first | exact .inl (by omega) | exact .inr (by omega)) ?_) | ((with_reducible show wp (dMod _ _) _ _); refine w_mod (by omega) ?_) | ((with_reducible show wp (dDiv _ _) _ _); refine w_div (by omega) (by omega) ?_) | ((with_reducible show wp (dPow _ _) _ _); refine w_pow (by first | omega | (constructor <;> omega)) (by omega) ?_) | ((with_reducible show wp (dIxLo _ _) _ _); refine wp_of rfl ?_) | ((with_reducible show wp (dGt _ _) _ _); refine wp_of rfl ?_) | ((with_reducible show wp (dLen _) _ _); refine wp_of rfl ?_) | ((with_reducible show wp (dNeg _) _ _); refine wp_of rfl ?_) | ((with_reducible show wp (dEq _ _) _ _); refine wp_of rfl ?_) | refine ⟨Nat.le_of_ble_eq_true rfl, ?_⟩ | refine ⟨_, rfl, ?_⟩ | refine ⟨_, _, _, rfl, ?_⟩ | refine ⟨_, _, rfl, ?_⟩ | dsimp only)
  have fw : ∀ s : Str, s ∈ WDS → Fl (.str s) ∨ StepD (.str s) := fun s h => .inl (fl_s (.inr h))
  have f1 : Fl (.str nm) ∨ StepD (.str nm) := .inl (fl_s (.inl mnm))
  have f2 : Fl (.str ot) ∨ StepD (.str ot) := .inl (fl_s (.inl mot))
  have f3 : Fl (.int nu) ∨ StepD (.int nu) := .inl (.inr ⟨_, rfl, by
    revert mnu
    simp only [List.mem_cons, List.not_mem_nil, or_false]
    rintro (rfl | rfl | rfl | rfl | rfl | rfl) <;> omega⟩)
  have r0 : 0 ≤ ro ∧ ro ≤ 999999999 := by
    revert mro
    simp only [List.mem_cons, List.not_mem_nil, or_false]
    rintro (rfl | rfl | rfl | rfl) <;> omega
  have f4 : Fl (.int ro) ∨ StepD (.int ro) := .inl (.inr ⟨_, rfl, by omega⟩)
  have f5 : Fl (.int (ro + 1)) ∨ StepD (.int (ro + 1)) := .inl (.inr ⟨_, rfl, by omega⟩)
  have f6 : Fl (.int se) ∨ StepD (.int se) := .inl (.inr ⟨_, rfl, by
    revert mse
    simp only [List.mem_cons, List.not_mem_nil, or_false]
    rintro (rfl | rfl | rfl) <;> omega⟩)
  have f7 : Fl (.int ed) ∨ StepD (.int ed) := .inl (.inr ⟨_, rfl, by
    revert med
    simp only [List.mem_cons, List.not_mem_nil, or_false]
    rintro (rfl | rfl | rfl | rfl) <;> omega⟩)
  have f8 : Fl (.int 5) ∨ StepD (.int 5) := .inl (.inr ⟨_, rfl, by omega⟩)
  refine w_of h8 (Nat.le_of_ble_eq_true rfl) (Nat.le_of_ble_eq_true rfl) fun d S7 md h7 => q d S7 ?_ (h7.le (by omega))
  simp only [List.mem_cons, List.mem_append, List.not_mem_nil, or_false] at md
  rcases md with (((rfl | rfl | rfl | rfl) | (rfl | rfl)) | (rfl | rfl)) | (rfl | rfl)
  · exact ⟨_, rfl, Nat.le_of_ble_eq_true rfl, Nat.le_of_ble_eq_true rfl, all1 (fw _ (by decide)) (all1 f1 (all1 f4 (all1 f3 all0)))⟩
  · exact ⟨_, rfl, Nat.le_of_ble_eq_true rfl, Nat.le_of_ble_eq_true rfl, all1 (fw _ (by decide)) (all1 (.inr hst) all0)⟩
  · exact ⟨_, rfl, Nat.le_of_ble_eq_true rfl, Nat.le_of_ble_eq_true rfl, all1 (fw _ (by decide)) (all1 (.inr hsu) all0)⟩
  · exact ⟨_, rfl, Nat.le_of_ble_eq_true rfl, Nat.le_of_ble_eq_true rfl, all1 (fw _ (by decide)) (all1 f4 all0)⟩
  · exact ⟨_, rfl, Nat.le_of_ble_eq_true rfl, Nat.le_of_ble_eq_true rfl, all1 (fw _ (by decide)) (all1 f2 (all1 f7 (all1 f1 (all1 f4 (all1 f3 all0)))))⟩
  · exact ⟨_, rfl, Nat.le_of_ble_eq_true rfl, Nat.le_of_ble_eq_true rfl, all1 (fw _ (by decide)) (all1 f2 (all1 f7 (all1 f1 (all1 f4 (all1 f6 all0)))))⟩
  · exact ⟨_, rfl, Nat.le_of_ble_eq_true rfl, Nat.le_of_ble_eq_true rfl, all1 (fw _ (by decide)) (all1 f2 (all1 f7 (all1 f1 (all1 f4 (all1 f3 all0)))))⟩
  · exact ⟨_, rfl, Nat.le_of_ble_eq_true rfl, Nat.le_of_ble_eq_true rfl, all1 (fw _ (by decide)) (all1 f2 (all1 f7 (all1 f1 (all1 f4 all0))))⟩
  · exact ⟨_, rfl, Nat.le_of_ble_eq_true rfl, Nat.le_of_ble_eq_true rfl, all1 (fw _ (by decide)) (all1 f2 (all1 f7 (all1 f1 (all1 f4 (all1 (fw _ (by decide)) (all1 f5 all0))))))⟩
  · exact ⟨_, rfl, Nat.le_of_ble_eq_true rfl, Nat.le_of_ble_eq_true rfl, all1 (fw _ (by decide)) (all1 f2 (all1 f7 (all1 f1 (all1 f8 (all1 f6 all0)))))⟩
end Zd

namespace Zd
open PySem PySem.Spec PyProof.Rows L2 Zg
/-! ### parts: what the program and the law say of them -/
abbrev MOR : List Str := ["wide", "refuse", "add", "drop", "no up", "no down", "release", "fill back", "withdraw", "purge", "there", "begin", "end", "visit", "set", "copy", "come", "read", "match", "order", "ref", "", "Id", "abcdefghi"]
abbrev MON : List Str := ["wide", "refuse", "add", "drop", "release", "withdraw", "purge", "there", "begin", "end", "visit", "set", "copy", "come", "read", "match", "order", "ref"]
abbrev STR : List Str := NMS ++ MOR
abbrev NAM : List Str := NMS ++ MON
def dat (d : Dat) : Bool := (kdT d).isSome
def g1 (d : Dat) : Prop := dat d = true ∧ ∀ x, d = .str x → x ∈ STR
def isInt : Dat → Bool
  | .int _ => true
  | _ => false
def nameT : Dat → Bool
  | .str x => decide (x ∈ NAM)
  | _ => false
def cnt9 : Dat → Bool
  | .int i => decide (0 ≤ i) && decide (i ≤ 999999999)
  | _ => false
def partB (p : Str) (d : Dat) : Bool :=
  if p = "column" ∨ p = "program" then nameT d else if p = "edition" ∨ p = "row" then cnt9 d else if p = "side" then isS d ["narrow", "wide"] else if p = "rule" then isS d ["cut", "empty", "refuse"] else if p = "manner" then isS d ["empty", "anew"] else isInt d
theorem k_integer {d : Dat} (h : dat d = true) : L_is_integer [d] = pure (.bl (isInt d)) := by
  cases d <;> first | rfl | cases h
theorem k_name {d : Dat} (h : g1 d) : ∀ S, L_is_name [d] S = .ok (.bl (nameT d)) S := by
  obtain ⟨h1, h2⟩ := h
  cases d with
  | str x =>
    have m := h2 x rfl
    clear h1 h2
    revert x
    intro x m S
    simp only [STR, NMS, MOR, List.cons_append, List.nil_append, List.mem_cons, List.not_mem_nil, or_false] at m
    rcases m with rfl | rfl | rfl | rfl | rfl | rfl | rfl | rfl | rfl | rfl | rfl | rfl | rfl | rfl | rfl | rfl | rfl | rfl | rfl | rfl | rfl | rfl | rfl | rfl | rfl | rfl | rfl | rfl | rfl | rfl | rfl | rfl | rfl | rfl | rfl | rfl | rfl <;> kernel_rfl
  | _ => first | (intro S; rfl) | cases h1
theorem k_lname {d : Dat} (h : g1 d) : ∀ S, L__law_is_name [d] S = .ok (.bl (nameT d)) S := by
  obtain ⟨h1, h2⟩ := h
  cases d with
  | str x =>
    have m := h2 x rfl
    clear h1 h2
    revert x
    intro x m S
    simp only [STR, NMS, MOR, List.cons_append, List.nil_append, List.mem_cons, List.not_mem_nil, or_false] at m
    rcases m with rfl | rfl | rfl | rfl | rfl | rfl | rfl | rfl | rfl | rfl | rfl | rfl | rfl | rfl | rfl | rfl | rfl | rfl | rfl | rfl | rfl | rfl | rfl | rfl | rfl | rfl | rfl | rfl | rfl | rfl | rfl | rfl | rfl | rfl | rfl | rfl | rfl <;> kernel_rfl
  | _ => first | (intro S; rfl) | cases h1
end Zd

namespace Zd
open PySem PySem.Spec PyProof.Rows L2 Zg
theorem eq_wp {m : M Dat} {S : List Dat} {x : Dat} (h : wp m S fun a S' => a = x ∧ S' = S) : m S = .ok x S := by
  obtain ⟨a, S', e, e1, e2⟩ := wp_ok h
  rw [e, e1, e2]
theorem wp_chain {S : List Dat} {ρ : Env} {f g : Dat → Dat → M Dat} {a b c : Env → M Dat} {C : Dat → List Dat → Prop} (h : wp (a ρ) S fun x S1 => wp (b ρ) S1 fun y S2 => wp (f x y) S2 fun z S3 => ∃ k, z = .bl k ∧ (k = true → wp (c ρ) S3 fun u S4 => wp (g y u) S4 C) ∧ (k = false → C (.bl false) S3)) : wp (xChain f g a b c ρ) S C :=
  wp_bind (wp_mono h fun x S1 k => wp_bind (wp_mono k fun y S2 k => wp_bind (wp_bind (wp_mono k fun z S3 ⟨k, e, k1, k2⟩ => by
    subst e
    refine wp_of rfl ?_
    cases k with
    | true => exact wp_bind (k1 rfl)
    | false => exact k2 rfl))))
theorem c9t {i : Int} (h : decide (0 ≤ i) = true) : Dat.bl (decide (i ≤ 999999999)) = .bl (cnt9 (.int i)) := by
  show _ = Dat.bl (decide (0 ≤ i) && decide (i ≤ 999999999))
  rw [h, Bool.true_and]
theorem c9f {i : Int} (h : decide (0 ≤ i) = false) : Dat.bl false = .bl (cnt9 (.int i)) := by
  show _ = Dat.bl (decide (0 ≤ i) && decide (i ≤ 999999999))
  rw [h, Bool.false_and]
abbrev PTS : List Str := ["column", "program", "edition", "row", "side", "rule", "manner", "number"]
theorem k_count {d : Dat} (h : dat d = true) (S : List Dat) : L_is_count [d] S = .ok (.bl (match d with | .int i => decide (0 ≤ i) | _ => false)) S := by
  cases d <;> first | rfl | cases h
theorem k_cnt9 {d : Dat} (h : dat d = true) (S : List Dat) : L__is_count [d] S = .ok (.bl (cnt9 d)) S := by
  cases d with
  | int i =>
    refine eq_wp (wp_run ?_)
    repeat (first | with_reducible refine wp_par3 ?_ | with_reducible refine wp_par ?_ | with_reducible refine wp_seq ?_ | with_reducible refine wp_asg ?_ | with_reducible refine wp_ret ?_ | with_reducible refine wp_op ?_ | with_reducible refine wp_un ?_ | with_reducible refine wp_cb ?_ | with_reducible refine wp_cons ?_ | with_reducible refine wp_nil ?_ | with_reducible refine wp_c ?_ | with_reducible refine wp_andV ?_ | with_reducible refine wp_orV ?_ | with_reducible refine wp_notV ?_ | with_reducible refine wp_test ?_ | with_reducible refine wp_not ?_ | with_reducible refine wp_tup ?_ | with_reducible refine wp_lst ?_ | with_reducible refine wp_call ?_ | with_reducible refine w_add ?_ | with_reducible refine w_sub ?_ | with_reducible refine w_int ?_ | ((with_reducible show wp (xVar _ _) _ _); refine wp_var rfl ?_) | ((with_reducible show wp (dMul _ _) _ _); refine w_mul (by first | exact .inl (by omega) | exact .inr (by omega)) ?_) | ((with_reducible show wp (dMod _ _) _ _); refine w_mod (by omega) ?_) | ((with_reducible show wp (dDiv _ _) _ _); refine w_div (by omega) (by omega) ?_) | ((with_reducible show wp (dPow _ _) _ _); refine w_pow (by first | omega | (constructor <;> omega)) (by omega) ?_) | ((with_reducible show wp (dIxLo _ _) _ _); refine wp_of rfl ?_) | ((with_reducible show wp (dGt _ _) _ _); refine wp_of rfl ?_) | ((with_reducible show wp (dLen _) _ _); refine wp_of rfl ?_) | ((with_reducible show wp (dNeg _) _ _); refine wp_of rfl ?_) | ((with_reducible show wp (dEq _ _) _ _); refine wp_of rfl ?_) | refine ⟨Nat.le_of_ble_eq_true rfl, ?_⟩ | refine ⟨_, rfl, ?_⟩ | refine ⟨_, _, _, rfl, ?_⟩ | refine ⟨_, _, rfl, ?_⟩ | dsimp only)
    refine ⟨fun h => ?_, fun h => ?_⟩
    · repeat (first | with_reducible refine wp_par3 ?_ | with_reducible refine wp_par ?_ | with_reducible refine wp_seq ?_ | with_reducible refine wp_asg ?_ | with_reducible refine wp_ret ?_ | with_reducible refine wp_op ?_ | with_reducible refine wp_un ?_ | with_reducible refine wp_cb ?_ | with_reducible refine wp_cons ?_ | with_reducible refine wp_nil ?_ | with_reducible refine wp_c ?_ | with_reducible refine wp_andV ?_ | with_reducible refine wp_orV ?_ | with_reducible refine wp_notV ?_ | with_reducible refine wp_test ?_ | with_reducible refine wp_not ?_ | with_reducible refine wp_tup ?_ | with_reducible refine wp_lst ?_ | with_reducible refine wp_call ?_ | with_reducible refine w_add ?_ | with_reducible refine w_sub ?_ | with_reducible refine w_int ?_ | ((with_reducible show wp (xVar _ _) _ _); refine wp_var rfl ?_) | ((with_reducible show wp (dMul _ _) _ _); refine w_mul (by first | exact .inl (by omega) | exact .inr (by omega)) ?_) | ((with_reducible show wp (dMod _ _) _ _); refine w_mod (by omega) ?_) | ((with_reducible show wp (dDiv _ _) _ _); refine w_div (by omega) (by omega) ?_) | ((with_reducible show wp (dPow _ _) _ _); refine w_pow (by first | omega | (constructor <;> omega)) (by omega) ?_) | ((with_reducible show wp (dIxLo _ _) _ _); refine wp_of rfl ?_) | ((with_reducible show wp (dGt _ _) _ _); refine wp_of rfl ?_) | ((with_reducible show wp (dLen _) _ _); refine wp_of rfl ?_) | ((with_reducible show wp (dNeg _) _ _); refine wp_of rfl ?_) | ((with_reducible show wp (dEq _ _) _ _); refine wp_of rfl ?_) | refine ⟨Nat.le_of_ble_eq_true rfl, ?_⟩ | refine ⟨_, rfl, ?_⟩ | refine ⟨_, _, _, rfl, ?_⟩ | refine ⟨_, _, rfl, ?_⟩ | dsimp only)
      exact wp_of rfl ⟨c9t h, rfl⟩
    · exact wp_of rfl ⟨c9f h, rfl⟩
  | _ => first | rfl | cases h
theorem k_part {p : Str} {d : Dat} (hp : p ∈ PTS) (h : g1 d) (S : List Dat) : L__is_part [.str p, d] S = .ok (.bl (partB p d)) S := by
  obtain ⟨h1, h2⟩ := h
  simp only [PTS, List.mem_cons, List.not_mem_nil, or_false] at hp
  cases d with
  | str x =>
    have m := h2 x rfl
    clear h1 h2
    revert x
    intro x m
    simp only [STR, NMS, MOR, List.cons_append, List.nil_append, List.mem_cons, List.not_mem_nil, or_false] at m
    rcases hp with rfl | rfl | rfl | rfl | rfl | rfl | rfl | rfl <;> (rcases m with rfl | rfl | rfl | rfl | rfl | rfl | rfl | rfl | rfl | rfl | rfl | rfl | rfl | rfl | rfl | rfl | rfl | rfl | rfl | rfl | rfl | rfl | rfl | rfl | rfl | rfl | rfl | rfl | rfl | rfl | rfl | rfl | rfl | rfl | rfl | rfl | rfl <;> kernel_rfl)
  | int i =>
    have k := k_cnt9 (d := .int i) rfl S
    have cnt : ∀ p : Str, (p = "edition" ∨ p = "row") → L__is_part [.str p, .int i] S = .ok (.bl (cnt9 (.int i))) S := fun p hp => by
      refine eq_wp (wp_run ?_)
      rcases hp with rfl | rfl
      · refine wp_seq (wp_of (S' := S) rfl ?_)
        refine wp_seq (wp_if (wp_of (a := true) (S' := S) rfl ⟨fun _ => ?_, nofun⟩))
        repeat (first | with_reducible refine wp_par3 ?_ | with_reducible refine wp_par ?_ | with_reducible refine wp_seq ?_ | with_reducible refine wp_asg ?_ | with_reducible refine wp_ret ?_ | with_reducible refine wp_op ?_ | with_reducible refine wp_un ?_ | with_reducible refine wp_cb ?_ | with_reducible refine wp_cons ?_ | with_reducible refine wp_nil ?_ | with_reducible refine wp_c ?_ | with_reducible refine wp_andV ?_ | with_reducible refine wp_orV ?_ | with_reducible refine wp_notV ?_ | with_reducible refine wp_test ?_ | with_reducible refine wp_not ?_ | with_reducible refine wp_tup ?_ | with_reducible refine wp_lst ?_ | with_reducible refine wp_call ?_ | with_reducible refine w_add ?_ | with_reducible refine w_sub ?_ | with_reducible refine w_int ?_ | ((with_reducible show wp (xVar _ _) _ _); refine wp_var rfl ?_) | ((with_reducible show wp (dMul _ _) _ _); refine w_mul (by first | exact .inl (by omega) | exact .inr (by omega)) ?_) | ((with_reducible show wp (dMod _ _) _ _); refine w_mod (by omega) ?_) | ((with_reducible show wp (dDiv _ _) _ _); refine w_div (by omega) (by omega) ?_) | ((with_reducible show wp (dPow _ _) _ _); refine w_pow (by first | omega | (constructor <;> omega)) (by omega) ?_) | ((with_reducible show wp (dIxLo _ _) _ _); refine wp_of rfl ?_) | ((with_reducible show wp (dGt _ _) _ _); refine wp_of rfl ?_) | ((with_reducible show wp (dLen _) _ _); refine wp_of rfl ?_) | ((with_reducible show wp (dNeg _) _ _); refine wp_of rfl ?_) | ((with_reducible show wp (dEq _ _) _ _); refine wp_of rfl ?_) | refine ⟨Nat.le_of_ble_eq_true rfl, ?_⟩ | refine ⟨_, rfl, ?_⟩ | refine ⟨_, _, _, rfl, ?_⟩ | refine ⟨_, _, rfl, ?_⟩ | dsimp only)
        exact wp_of k ⟨rfl, rfl⟩
      · refine wp_seq (wp_of (S' := S) rfl ?_)
        refine wp_seq (wp_if (wp_of (a := true) (S' := S) rfl ⟨fun _ => ?_, nofun⟩))
        repeat (first | with_reducible refine wp_par3 ?_ | with_reducible refine wp_par ?_ | with_reducible refine wp_seq ?_ | with_reducible refine wp_asg ?_ | with_reducible refine wp_ret ?_ | with_reducible refine wp_op ?_ | with_reducible refine wp_un ?_ | with_reducible refine wp_cb ?_ | with_reducible refine wp_cons ?_ | with_reducible refine wp_nil ?_ | with_reducible refine wp_c ?_ | with_reducible refine wp_andV ?_ | with_reducible refine wp_orV ?_ | with_reducible refine wp_notV ?_ | with_reducible refine wp_test ?_ | with_reducible refine wp_not ?_ | with_reducible refine wp_tup ?_ | with_reducible refine wp_lst ?_ | with_reducible refine wp_call ?_ | with_reducible refine w_add ?_ | with_reducible refine w_sub ?_ | with_reducible refine w_int ?_ | ((with_reducible show wp (xVar _ _) _ _); refine wp_var rfl ?_) | ((with_reducible show wp (dMul _ _) _ _); refine w_mul (by first | exact .inl (by omega) | exact .inr (by omega)) ?_) | ((with_reducible show wp (dMod _ _) _ _); refine w_mod (by omega) ?_) | ((with_reducible show wp (dDiv _ _) _ _); refine w_div (by omega) (by omega) ?_) | ((with_reducible show wp (dPow _ _) _ _); refine w_pow (by first | omega | (constructor <;> omega)) (by omega) ?_) | ((with_reducible show wp (dIxLo _ _) _ _); refine wp_of rfl ?_) | ((with_reducible show wp (dGt _ _) _ _); refine wp_of rfl ?_) | ((with_reducible show wp (dLen _) _ _); refine wp_of rfl ?_) | ((with_reducible show wp (dNeg _) _ _); refine wp_of rfl ?_) | ((with_reducible show wp (dEq _ _) _ _); refine wp_of rfl ?_) | refine ⟨Nat.le_of_ble_eq_true rfl, ?_⟩ | refine ⟨_, rfl, ?_⟩ | refine ⟨_, _, _, rfl, ?_⟩ | refine ⟨_, _, rfl, ?_⟩ | dsimp only)
        exact wp_of k ⟨rfl, rfl⟩
    rcases hp with rfl | rfl | rfl | rfl | rfl | rfl | rfl | rfl
    · rfl
    · rfl
    · exact cnt _ (.inl rfl)
    · exact cnt _ (.inr rfl)
    · rfl
    · rfl
    · rfl
    · rfl
  | _ => first | (rcases hp with rfl | rfl | rfl | rfl | rfl | rfl | rfl | rfl <;> rfl) | cases h1
/-- the law's words for the parts -/
def srt (c : Str) : Str := if c = "n" then "column" else if c = "w" then "row" else if c = "s" then "side" else if c = "r" then "rule" else if c = "m" then "manner" else "number"
abbrev SRT : List Str := ["n", "i", "w", "s", "r", "m"]
theorem k_fits {L : List Dat → M Dat} (hL : L = L__law_fits0 ∨ L = L__law_fits1) {c : Str} {d : Dat} (hc : c ∈ SRT) (h : g1 d) (S : List Dat) : L [.str c, d] S = .ok (.bl (partB (srt c) d)) S := by
  obtain ⟨h1, h2⟩ := h
  simp only [SRT, List.mem_cons, List.not_mem_nil, or_false] at hc
  cases d with
  | str x =>
    have m := h2 x rfl
    clear h1 h2
    revert x
    intro x m
    simp only [STR, NMS, MOR, List.cons_append, List.nil_append, List.mem_cons, List.not_mem_nil, or_false] at m
    rcases hL with rfl | rfl <;> (rcases hc with rfl | rfl | rfl | rfl | rfl | rfl <;> (rcases m with rfl | rfl | rfl | rfl | rfl | rfl | rfl | rfl | rfl | rfl | rfl | rfl | rfl | rfl | rfl | rfl | rfl | rfl | rfl | rfl | rfl | rfl | rfl | rfl | rfl | rfl | rfl | rfl | rfl | rfl | rfl | rfl | rfl | rfl | rfl | rfl | rfl <;> kernel_rfl))
  | int i =>
    have cnt : L [.str "w", .int i] S = .ok (.bl (cnt9 (.int i))) S := by
      rcases hL with rfl | rfl
      · refine eq_wp (wp_run ?_)
        refine wp_seq (wp_of (S' := S) rfl ?_)
        refine wp_seq (wp_of (S' := S) rfl ?_)
        refine wp_seq (wp_if (wp_of (a := true) (S' := S) rfl ⟨fun _ => ?_, nofun⟩))
        refine wp_ret (wp_andV (wp_of (a := .bl true) (S' := S) rfl ⟨_, rfl, fun _ => ?_, nofun⟩))
        refine wp_chain ?_
        repeat (first | with_reducible refine wp_par3 ?_ | with_reducible refine wp_par ?_ | with_reducible refine wp_seq ?_ | with_reducible refine wp_asg ?_ | with_reducible refine wp_ret ?_ | with_reducible refine wp_op ?_ | with_reducible refine wp_un ?_ | with_reducible refine wp_cb ?_ | with_reducible refine wp_cons ?_ | with_reducible refine wp_nil ?_ | with_reducible refine wp_c ?_ | with_reducible refine wp_andV ?_ | with_reducible refine wp_orV ?_ | with_reducible refine wp_notV ?_ | with_reducible refine wp_test ?_ | with_reducible refine wp_not ?_ | with_reducible refine wp_tup ?_ | with_reducible refine wp_lst ?_ | with_reducible refine wp_call ?_ | with_reducible refine w_add ?_ | with_reducible refine w_sub ?_ | with_reducible refine w_int ?_ | ((with_reducible show wp (xVar _ _) _ _); refine wp_var rfl ?_) | ((with_reducible show wp (dMul _ _) _ _); refine w_mul (by first | exact .inl (by omega) | exact .inr (by omega)) ?_) | ((with_reducible show wp (dMod _ _) _ _); refine w_mod (by omega) ?_) | ((with_reducible show wp (dDiv _ _) _ _); refine w_div (by omega) (by omega) ?_) | ((with_reducible show wp (dPow _ _) _ _); refine w_pow (by first | omega | (constructor <;> omega)) (by omega) ?_) | ((with_reducible show wp (dIxLo _ _) _ _); refine wp_of rfl ?_) | ((with_reducible show wp (dGt _ _) _ _); refine wp_of rfl ?_) | ((with_reducible show wp (dLen _) _ _); refine wp_of rfl ?_) | ((with_reducible show wp (dNeg _) _ _); refine wp_of rfl ?_) | ((with_reducible show wp (dEq _ _) _ _); refine wp_of rfl ?_) | refine ⟨Nat.le_of_ble_eq_true rfl, ?_⟩ | refine ⟨_, rfl, ?_⟩ | refine ⟨_, _, _, rfl, ?_⟩ | refine ⟨_, _, rfl, ?_⟩ | dsimp only)
        refine ⟨fun h => ?_, fun h => ?_⟩
        · repeat (first | with_reducible refine wp_par3 ?_ | with_reducible refine wp_par ?_ | with_reducible refine wp_seq ?_ | with_reducible refine wp_asg ?_ | with_reducible refine wp_ret ?_ | with_reducible refine wp_op ?_ | with_reducible refine wp_un ?_ | with_reducible refine wp_cb ?_ | with_reducible refine wp_cons ?_ | with_reducible refine wp_nil ?_ | with_reducible refine wp_c ?_ | with_reducible refine wp_andV ?_ | with_reducible refine wp_orV ?_ | with_reducible refine wp_notV ?_ | with_reducible refine wp_test ?_ | with_reducible refine wp_not ?_ | with_reducible refine wp_tup ?_ | with_reducible refine wp_lst ?_ | with_reducible refine wp_call ?_ | with_reducible refine w_add ?_ | with_reducible refine w_sub ?_ | with_reducible refine w_int ?_ | ((with_reducible show wp (xVar _ _) _ _); refine wp_var rfl ?_) | ((with_reducible show wp (dMul _ _) _ _); refine w_mul (by first | exact .inl (by omega) | exact .inr (by omega)) ?_) | ((with_reducible show wp (dMod _ _) _ _); refine w_mod (by omega) ?_) | ((with_reducible show wp (dDiv _ _) _ _); refine w_div (by omega) (by omega) ?_) | ((with_reducible show wp (dPow _ _) _ _); refine w_pow (by first | omega | (constructor <;> omega)) (by omega) ?_) | ((with_reducible show wp (dIxLo _ _) _ _); refine wp_of rfl ?_) | ((with_reducible show wp (dGt _ _) _ _); refine wp_of rfl ?_) | ((with_reducible show wp (dLen _) _ _); refine wp_of rfl ?_) | ((with_reducible show wp (dNeg _) _ _); refine wp_of rfl ?_) | ((with_reducible show wp (dEq _ _) _ _); refine wp_of rfl ?_) | refine ⟨Nat.le_of_ble_eq_true rfl, ?_⟩ | refine ⟨_, rfl, ?_⟩ | refine ⟨_, _, _, rfl, ?_⟩ | refine ⟨_, _, rfl, ?_⟩ | dsimp only)
          exact wp_of rfl ⟨c9t h, rfl⟩
        · exact wp_of rfl ⟨c9f h, rfl⟩
      · refine eq_wp (wp_run ?_)
        refine wp_seq (wp_of (S' := S) rfl ?_)
        refine wp_seq (wp_of (S' := S) rfl ?_)
        refine wp_seq (wp_if (wp_of (a := true) (S' := S) rfl ⟨fun _ => ?_, nofun⟩))
        refine wp_ret (wp_andV (wp_of (a := .bl true) (S' := S) rfl ⟨_, rfl, fun _ => ?_, nofun⟩))
        refine wp_chain ?_
        repeat (first | with_reducible refine wp_par3 ?_ | with_reducible refine wp_par ?_ | with_reducible refine wp_seq ?_ | with_reducible refine wp_asg ?_ | with_reducible refine wp_ret ?_ | with_reducible refine wp_op ?_ | with_reducible refine wp_un ?_ | with_reducible refine wp_cb ?_ | with_reducible refine wp_cons ?_ | with_reducible refine wp_nil ?_ | with_reducible refine wp_c ?_ | with_reducible refine wp_andV ?_ | with_reducible refine wp_orV ?_ | with_reducible refine wp_notV ?_ | with_reducible refine wp_test ?_ | with_reducible refine wp_not ?_ | with_reducible refine wp_tup ?_ | with_reducible refine wp_lst ?_ | with_reducible refine wp_call ?_ | with_reducible refine w_add ?_ | with_reducible refine w_sub ?_ | with_reducible refine w_int ?_ | ((with_reducible show wp (xVar _ _) _ _); refine wp_var rfl ?_) | ((with_reducible show wp (dMul _ _) _ _); refine w_mul (by first | exact .inl (by omega) | exact .inr (by omega)) ?_) | ((with_reducible show wp (dMod _ _) _ _); refine w_mod (by omega) ?_) | ((with_reducible show wp (dDiv _ _) _ _); refine w_div (by omega) (by omega) ?_) | ((with_reducible show wp (dPow _ _) _ _); refine w_pow (by first | omega | (constructor <;> omega)) (by omega) ?_) | ((with_reducible show wp (dIxLo _ _) _ _); refine wp_of rfl ?_) | ((with_reducible show wp (dGt _ _) _ _); refine wp_of rfl ?_) | ((with_reducible show wp (dLen _) _ _); refine wp_of rfl ?_) | ((with_reducible show wp (dNeg _) _ _); refine wp_of rfl ?_) | ((with_reducible show wp (dEq _ _) _ _); refine wp_of rfl ?_) | refine ⟨Nat.le_of_ble_eq_true rfl, ?_⟩ | refine ⟨_, rfl, ?_⟩ | refine ⟨_, _, _, rfl, ?_⟩ | refine ⟨_, _, rfl, ?_⟩ | dsimp only)
        refine ⟨fun h => ?_, fun h => ?_⟩
        · repeat (first | with_reducible refine wp_par3 ?_ | with_reducible refine wp_par ?_ | with_reducible refine wp_seq ?_ | with_reducible refine wp_asg ?_ | with_reducible refine wp_ret ?_ | with_reducible refine wp_op ?_ | with_reducible refine wp_un ?_ | with_reducible refine wp_cb ?_ | with_reducible refine wp_cons ?_ | with_reducible refine wp_nil ?_ | with_reducible refine wp_c ?_ | with_reducible refine wp_andV ?_ | with_reducible refine wp_orV ?_ | with_reducible refine wp_notV ?_ | with_reducible refine wp_test ?_ | with_reducible refine wp_not ?_ | with_reducible refine wp_tup ?_ | with_reducible refine wp_lst ?_ | with_reducible refine wp_call ?_ | with_reducible refine w_add ?_ | with_reducible refine w_sub ?_ | with_reducible refine w_int ?_ | ((with_reducible show wp (xVar _ _) _ _); refine wp_var rfl ?_) | ((with_reducible show wp (dMul _ _) _ _); refine w_mul (by first | exact .inl (by omega) | exact .inr (by omega)) ?_) | ((with_reducible show wp (dMod _ _) _ _); refine w_mod (by omega) ?_) | ((with_reducible show wp (dDiv _ _) _ _); refine w_div (by omega) (by omega) ?_) | ((with_reducible show wp (dPow _ _) _ _); refine w_pow (by first | omega | (constructor <;> omega)) (by omega) ?_) | ((with_reducible show wp (dIxLo _ _) _ _); refine wp_of rfl ?_) | ((with_reducible show wp (dGt _ _) _ _); refine wp_of rfl ?_) | ((with_reducible show wp (dLen _) _ _); refine wp_of rfl ?_) | ((with_reducible show wp (dNeg _) _ _); refine wp_of rfl ?_) | ((with_reducible show wp (dEq _ _) _ _); refine wp_of rfl ?_) | refine ⟨Nat.le_of_ble_eq_true rfl, ?_⟩ | refine ⟨_, rfl, ?_⟩ | refine ⟨_, _, _, rfl, ?_⟩ | refine ⟨_, _, rfl, ?_⟩ | dsimp only)
          exact wp_of rfl ⟨c9t h, rfl⟩
        · exact wp_of rfl ⟨c9f h, rfl⟩
    rcases hc with rfl | rfl | rfl | rfl | rfl | rfl
    · rcases hL with rfl | rfl <;> rfl
    · rcases hL with rfl | rfl <;> rfl
    · exact cnt
    · rcases hL with rfl | rfl <;> rfl
    · rcases hL with rfl | rfl <;> rfl
    · rcases hL with rfl | rfl <;> rfl
  | _ => first | (rcases hL with rfl | rfl <;> (rcases hc with rfl | rfl | rfl | rfl | rfl | rfl <;> rfl)) | cases h1
end Zd

namespace Zd
open PySem PySem.Spec PyProof.Rows L2 Zg
theorem bls_map : ∀ bs : List Bool, blsOf (bs.map .bl) = some bs
  | [] => rfl
  | b :: r => by rw [List.map_cons]; unfold blsOf; rw [bls_map r]; rfl
theorem all_of {bs : List Bool} {S : List Dat} : dAll [.lst (bs.map .bl)] S = .ok (.bl (bs.all id)) S := by
  unfold dAll
  simp only [bls_map]
  rfl
theorem any_of {bs : List Bool} {S : List Dat} : dAny [.lst (bs.map .bl)] S = .ok (.bl (bs.any id)) S := by
  unfold dAny
  simp only [bls_map]
  rfl
def zipB (F : Str → Dat → Bool) (ps : List Str) (items : List Dat) : List Bool := (ps.zip items).map fun q => F q.1 q.2
theorem comp_zip {F : Str → Dat → Bool} {e : Env → M Dat} {ρ : Env} {i j : Nat} {S : List Dat} : ∀ {ps : List Str} {items : List Dat}, (∀ p d, p ∈ ps → d ∈ items → e ((ρ.set i (some (.str p))).set j (some d)) S = .ok (.bl (F p d)) S) →
    compD (gT 2 (gCo (gN i) (gCo (gN j) gNl))) bYes e ρ (zipD (ps.map .str) items) S = .ok ((zipB F ps items).map .bl) S
  | [], items, _ => rfl
  | p :: ps, [], _ => rfl
  | p :: ps, d :: items, h => by
    show compD _ bYes e ρ (.tup [.str p, d] :: zipD (ps.map .str) items) S = _
    have h1 := h p d List.mem_cons_self List.mem_cons_self
    have h2 := comp_zip (e := e) (ρ := ρ) (i := i) (j := j) (S := S) fun p d hp hd => h p d (List.mem_cons_of_mem _ hp) (List.mem_cons_of_mem _ hd)
    unfold compD
    show ((e ((ρ.set i (some (.str p))).set j (some d)) >>= fun x => compD _ bYes e ρ (zipD (ps.map .str) items) >>= fun xs => pure (x :: xs)) : M (List Dat)) S = _
    rw [m_bind, h1]
    show ((compD _ bYes e ρ (zipD (ps.map .str) items) >>= fun xs => pure (.bl (F p d) :: xs)) : M (List Dat)) S = _
    rw [m_bind, h2]
    rfl
theorem comp_map {f : Dat → Dat} {e : Env → M Dat} {ρ : Env} {i : Nat} {S : List Dat} : ∀ {ds : List Dat}, (∀ d, d ∈ ds → e (ρ.set i (some d)) S = .ok (f d) S) → compD (gN i) bYes e ρ ds S = .ok (ds.map f) S
  | [], _ => rfl
  | d :: ds, h => by
    have h1 := h d List.mem_cons_self
    have h2 := comp_map (e := e) (ρ := ρ) (i := i) (S := S) fun d hd => h d (List.mem_cons_of_mem _ hd)
    unfold compD
    show ((e (ρ.set i (some d)) >>= fun x => compD (gN i) bYes e ρ ds >>= fun xs => pure (x :: xs)) : M (List Dat)) S = _
    rw [m_bind, h1]
    show ((compD (gN i) bYes e ρ ds >>= fun xs => pure (f d :: xs)) : M (List Dat)) S = _
    rw [m_bind, h2]
    rfl
theorem zip_lenD {xs ys : List Dat} : (zipD xs ys).length = min xs.length ys.length := zip_len
def formZ (form : List Str) (items : List Dat) : Bool := decide (items.length = form.length) && (zipB partB form items).all id
theorem wp_ne {S : List Dat} {i j : Int} {C : Dat → List Dat → Prop} (h : C (.bl (!decide (i = j))) S) : wp (dNe (.int i) (.int j)) S C := by
  refine wp_of (a := .bl (!decide (i = j))) ?_ h
  show (M.need (scal (V.int i) (V.int j)) >>= fun _ => pure (Dat.bl (!decide (V.int i = V.int j)))) S = _
  have e : decide (V.int i = V.int j) = decide (i = j) := by
    by_cases c : i = j
    · subst c; simp
    · rw [decide_eq_false c, decide_eq_false fun z => c (by injection z)]
  rw [e]
  rfl
theorem k_parts {form : List Str} {items : List Dat} (hf : ∀ p ∈ form, p ∈ PTS) (hi : ∀ d ∈ items, g1 d) (l : items.length ≤ 100) (l2 : form.length ≤ 100) (S : List Dat) : L__are_parts [strsT form, .tup items] S = .ok (.bl (formZ form items)) S := by
  refine eq_wp (wp_run ?_)
  refine wp_seq (wp_if (wp_test (wp_op (wp_of (a := .int items.length) (S' := S) rfl (wp_of (a := .int (form.map Dat.str).length) (S' := S) rfl (wp_ne ⟨_, rfl, fun h => ?_, fun h => ?_⟩))))))
  · refine wp_of rfl ?_
    refine wp_of rfl ⟨?_, rfl⟩
    rw [List.length_map, Bool.not_eq_true', decide_eq_false_iff_not] at h
    unfold formZ
    rw [decide_eq_false (by omega), Bool.false_and]
  · refine wp_of rfl ?_
    rw [List.length_map, Bool.not_eq_false', decide_eq_true_eq] at h
    refine wp_ret (wp_cb (wp_cons (wp_lc (wp_of (a := zipD (form.map .str) items) (S' := S) rfl ⟨?_, ?_⟩))))
    · rw [zip_lenD]
      omega
    · refine wp_of (comp_zip (F := partB) fun p d hp hd => ?_) ?_
      · have k := k_part (hf p hp) (hi d hd) S
        show (calm (L__is_part [.str p, d])) S = _
        unfold calm
        rw [k]
      · refine wp_nil (wp_of all_of ?_)
        refine wp_of rfl ⟨?_, rfl⟩
        unfold formZ
        rw [decide_eq_true (by omega), Bool.true_and]
end Zd

namespace Zd
open PySem PySem.Spec PyProof.Rows L2 Zg
theorem cut1 {x : Dat} {xs : List Dat} : cutD (x :: xs) (some 1) none = xs := by
  unfold cutD HT.sIx
  simp
def fw : Dat → Str
  | .tup (.str w :: _) => w
  | _ => ""
/-- a value two levels deep -/
def Gv (d : Dat) : Prop := g1 d ∧ ∀ ds, d = .tup ds → ds.length ≤ 100 ∧ ∀ x ∈ ds, g1 x
theorem ix0 {x : Dat} {r : List Dat} (S : List Dat) : dIxT (.tup (x :: r)) (.int 0) S = .ok x S := by
  show M.opt (atI (x :: r) 0) S = _
  have e : atI (x :: r) 0 = some x := by
    unfold atI ixN
    have : (0 : Int) < ((x :: r).length : Int) := by rw [List.length_cons]; omega
    simp [this]
  rw [e]
  rfl
theorem k_first {d : Dat} (h : Gv d) (S : List Dat) : L__first_word [d] S = .ok (.str (fw d)) S := by
  obtain ⟨⟨h1, _⟩, h2⟩ := h
  cases d with
  | tup ds =>
    cases ds with
    | nil => rfl
    | cons x r =>
      have := (h2 _ rfl).2 x List.mem_cons_self
      obtain ⟨h3, _⟩ := this
      refine eq_wp (wp_run (wp_seq (wp_if (wp_or (wp_of (a := false) (S' := S) rfl ⟨nofun, fun _ => ?_⟩)))))
      refine wp_or (wp_of (a := false) (S' := S) rfl ⟨nofun, fun _ => ?_⟩)
      refine wp_not (wp_test (wp_cb (wp_cons (wp_op (wp_of (a := .tup (x :: r)) (S' := S) rfl (wp_of (a := .int 0) (S' := S) rfl (wp_of (a := x) (S' := S) (ix0 S) ?_)))))))
      refine wp_cons (wp_of (a := .ty "str") (S' := S) rfl (wp_nil ?_))
      cases x with
      | str w =>
        refine wp_of (a := .bl true) (S' := S) rfl ⟨_, rfl, nofun, fun _ => ?_⟩
        refine wp_of rfl ?_
        refine wp_ret (wp_op (wp_of (a := .tup (.str w :: r)) (S' := S) rfl (wp_of (a := .int 0) (S' := S) rfl (wp_of (a := .str w) (S' := S) (ix0 S) ?_))))
        exact wp_of rfl ⟨rfl, rfl⟩
      | _ => first | (refine wp_of (a := .bl false) (S' := S) rfl ⟨_, rfl, fun _ => ?_, nofun⟩; refine wp_of rfl ?_; exact wp_of rfl ⟨rfl, rfl⟩) | cases h3
  | _ => first | rfl | cases h1
def fo (o : Option (List Str)) : Dat := match o with
  | some xs => strsT xs
  | none => .non
theorem k_sform {d : Dat} (h : Gv d) (S : List Dat) : L_step_form [d] S = .ok (fo (lkT (fw d) t_STEP_FORMS)) S := by
  refine eq_wp (wp_run (wp_ret (wp_bind ?_)))
  refine wp_call (wp_cons (wp_of rfl (wp_nil (wp_of (k_first h S) ?_))))
  exact wp_of rfl ⟨rfl, rfl⟩
theorem k_eform {d : Dat} (h : Gv d) (S : List Dat) : L_event_form [d] S = .ok (fo (lkT (fw d) t_EVENT_FORMS)) S := by
  refine eq_wp (wp_run (wp_ret (wp_bind ?_)))
  refine wp_call (wp_cons (wp_of rfl (wp_nil (wp_of (k_first h S) ?_))))
  exact wp_of rfl ⟨rfl, rfl⟩
def stepB : Dat → Bool
  | .tup (.str w :: items) => match lkT w t_STEP_FORMS with
    | some form => formZ form items
    | none => false
  | _ => false
theorem lkT_mem {z : Str} {form : List Str} : ∀ {tab : List (Str × List Str)}, lkT z tab = some form → ∃ k, (k, form) ∈ tab
  | [], h => by cases h
  | (k, xs) :: r, h => by
    unfold lkT at h
    by_cases e : (k == z) = true
    · rw [if_pos e] at h
      cases h
      exact ⟨k, List.mem_cons_self⟩
    · rw [if_neg e] at h
      obtain ⟨k', m⟩ := lkT_mem h
      exact ⟨k', List.mem_cons_of_mem _ m⟩
theorem step_pts {z : Str} {form : List Str} (h : lkT z t_STEP_FORMS = some form) : (∀ p ∈ form, p ∈ PTS) ∧ form.length ≤ 100 := by
  obtain ⟨k, m⟩ := lkT_mem h
  simp only [t_STEP_FORMS, List.mem_cons, List.not_mem_nil, or_false, Prod.mk.injEq] at m
  rcases m with ⟨_, rfl⟩ | ⟨_, rfl⟩ | ⟨_, rfl⟩ | ⟨_, rfl⟩ | ⟨_, rfl⟩ | ⟨_, rfl⟩ | ⟨_, rfl⟩ | ⟨_, rfl⟩ | ⟨_, rfl⟩ | ⟨_, rfl⟩ | ⟨_, rfl⟩ | ⟨_, rfl⟩ <;> decide
theorem fw_some {d : Dat} {tab : List (Str × List Str)} {form : List Str} (h0 : lkT "" tab = none) (h : lkT (fw d) tab = some form) : ∃ w items, d = .tup (.str w :: items) ∧ lkT w tab = some form := by
  unfold fw at h
  split at h
  · exact ⟨_, _, rfl, h⟩
  · rw [h0] at h
    cases h
theorem k_isstep {d : Dat} (h : Gv d) (S : List Dat) : L_is_step_form [d] S = .ok (.bl (stepB d)) S := by
  refine eq_wp (wp_run (wp_seq (wp_asg (wp_call (wp_cons (wp_of rfl (wp_nil (wp_of (k_sform h S) ⟨_, rfl, ?_⟩))))))))
  cases e : lkT (fw d) t_STEP_FORMS with
  | none =>
    refine wp_of rfl (wp_of rfl ⟨?_, rfl⟩)
    have : stepB d = false := by
      unfold stepB
      split
      · rename_i w items
        have e : lkT w t_STEP_FORMS = none := e
        rw [e]
      · rfl
    rw [this]
  | some form =>
    obtain ⟨w, items, rfl, e2⟩ := fw_some (by decide) e
    obtain ⟨p1, p2⟩ := step_pts e2
    have hd := h.2 _ rfl
    refine wp_ret (wp_andV (wp_of (a := .bl true) (S' := S) rfl ⟨_, rfl, fun _ => ?_, nofun⟩))
    refine wp_call (wp_cons (wp_of (a := strsT form) (S' := S) rfl (wp_cons (wp_of (a := .tup items) (S' := S) ?_ (wp_nil ?_)))))
    · show (Out.ok (Dat.tup (cutD (.str w :: items) (some 1) none)) S : Out Dat) = _
      rw [cut1]
    · refine wp_of (k_parts p1 (fun x m => hd.2 x (List.mem_cons_of_mem _ m)) (by have := hd.1; rw [List.length_cons] at this; omega) p2 S) (wp_of rfl ⟨?_, rfl⟩)
      unfold stepB
      simp only [e2]
end Zd

namespace Zd
open PySem PySem.Spec PyProof.Rows L2 Zg
def signsS (s : Str) : List Str := s.cps.toList.map fun c => ⟨#[c]⟩
theorem signs_map (s : Str) : signs s = (signsS s).map .str := by
  unfold signs signsS
  rw [List.map_map]
  rfl
theorem signs_len (s : Str) : (signsS s).length = s.length := by
  unfold signsS
  rw [List.length_map, Array.length_toList]
  rfl
def lkS (w : Str) : List (Str × Str) → Option Str
  | [] => none
  | (k, s) :: r => if k == w then some s else lkS w r
theorem lkK_S {w : Str} : ∀ l : List (Str × Str), lkK (.inr w) (l.map fun q => .inr q.1) (l.map fun q => Dat.str q.2) = (lkS w l).map .str
  | [] => rfl
  | (k, s) :: r => by
    rw [List.map_cons, List.map_cons]
    unfold lkK lkS
    by_cases e : k = w
    · subst e
      rw [if_pos (decide_eq_true rfl), if_pos (beq_self_eq_true k)]
      rfl
    · rw [if_neg (by rw [decide_eq_true_eq]; intro c; exact e (by injection c)), if_neg (by rw [beq_iff_eq]; exact e)]
      exact lkK_S r
def lawF (l : List (Str × Str)) : Dat → Bool
  | .tup (.str w :: items) => match lkS w l with
    | some s => decide (items.length = s.length) && (zipB (fun c x => partB (srt c) x) (signsS s) items).all id
    | none => false
  | _ => false
def sortsD (l : List (Str × Str)) : Dat := .dic (l.map fun q => .inr q.1) (l.map fun q => .str q.2)
def formBody (Lf : List Dat → M Dat) : Env → M Flow := (sSeq (sIf (bOr (bNot (bTest (xCB dIsi (xCons (xVar 1) (xCons (xC (.ty "tuple")) xNil))))) (bOr (bTest (xOp dEqT (xVar 1) (xTup xNil))) (bOr (bNot (bTest (xCB dIsi (xCons (xOp dIxT (xVar 1) (xC (.int 0))) (xCons (xC (.ty "str")) xNil))))) (bTest (xDIn true (xOp dIxT (xVar 1) (xC (.int 0))) (xVar 0)))))) (sRet (xC (.bl false))) sNx)
    (sSeq (sIf (bTest (xOp dNe (xCB dLen (xCons (xVar 1) xNil)) (xOp dAdd (xCB dLenS (xCons (xDGet (xVar 0) (xOp dIxT (xVar 1) (xC (.int 0)))) xNil)) (xC (.int 1))))) (sRet (xC (.bl false))) sNx)
    (sRet (xCB dAll (xCons (xLc (iZipM (xCons (xDGet (xVar 0) (xOp dIxT (xVar 1) (xC (.int 0)))) (xCons (jSl dCutT (xVar 1) (oSome (xC (.int 1))) oNone) xNil))) (gT 2 (gCo (gN 2) (gCo (gN 3) gNl))) bYes (xCall Lf (xCons (xVar 2) (xCons (xVar 3) xNil))) [2, 3]) xNil)))))
def formR (l : List (Str × Str)) (F : Str → Dat → Bool) (d : Dat) : Bool := match d with
  | .tup (.str w :: items) => (match lkS w l with
    | some s => decide (items.length = s.length) && (zipB F (signsS s) items).all id
    | none => false)
  | _ => false
theorem dic_in {l : List (Str × Str)} {w : Str} {S : List Dat} : dDIn true (.str w) (sortsD l) S = .ok (.bl (!(lkS w l).isSome)) S := by
  show (pure (Dat.bl (true != (lkK (.inr w) (l.map fun q => .inr q.1) (l.map fun q => Dat.str q.2)).isSome)) : M Dat) S = _
  rw [lkK_S, Option.isSome_map, Bool.true_bne]
  rfl
theorem dic_get {l : List (Str × Str)} {w s : Str} {S : List Dat} (h : lkS w l = some s) : dDGet (sortsD l) (.str w) S = .ok (.str s) S := by
  show M.opt (lkK (.inr w) (l.map fun q => .inr q.1) (l.map fun q => Dat.str q.2)) S = _
  rw [lkK_S, h]
  rfl
theorem wp_din {S : List Dat} {ρ : Env} {n : Bool} {a b : Env → M Dat} {C : Dat → List Dat → Prop} (h : wp (a ρ) S fun x S1 => wp (b ρ) S1 fun y S2 => wp (dDIn n x y) S2 C) : wp (xDIn n a b ρ) S C := wp_bind (wp_mono h fun x S1 k => wp_bind k)
theorem wp_dget {S : List Dat} {ρ : Env} {a b : Env → M Dat} {C : Dat → List Dat → Prop} (h : wp (a ρ) S fun x S1 => wp (b ρ) S1 fun y S2 => wp (dDGet x y) S2 C) : wp (xDGet a b ρ) S C := wp_bind (wp_mono h fun x S1 k => wp_bind k)
/-- the law's look at a form -/
theorem k_form {Lf : List Dat → M Dat} {l : List (Str × Str)} {F : Str → Dat → Bool} {d : Dat} (h : Gv d)
    (hs : ∀ w s, lkS w l = some s → s.length ≤ 100) (hF : ∀ w s items, lkS w l = some s → d = .tup (.str w :: items) → ∀ c ∈ signsS s, ∀ x ∈ items, ∀ S, Lf [.str c, x] S = .ok (.bl (F c x)) S) (S : List Dat) :
    runD N__law_has_form.length (formBody Lf) [sortsD l, d] S = .ok (.bl (formR l F d)) S := by
  obtain ⟨⟨h1, _⟩, h2⟩ := h
  cases d with
  | tup ds =>
    cases ds with
    | nil => rfl
    | cons x r =>
      have ⟨hl, hx⟩ := h2 _ rfl
      obtain ⟨h3, _⟩ := hx x List.mem_cons_self
      rw [List.length_cons] at hl
      refine eq_wp (wp_run (wp_seq (wp_if (wp_or (wp_of (a := false) (S' := S) rfl ⟨nofun, fun _ => ?_⟩)))))
      refine wp_or (wp_of (a := false) (S' := S) rfl ⟨nofun, fun _ => ?_⟩)
      refine wp_or (wp_not (wp_test (wp_cb (wp_cons (wp_op (wp_of (a := .tup (x :: r)) (S' := S) rfl (wp_of (a := .int 0) (S' := S) rfl (wp_of (a := x) (S' := S) (ix0 S) ?_))))))))
      refine wp_cons (wp_of (a := .ty "str") (S' := S) rfl (wp_nil ?_))
      cases x with
      | str w =>
        have hi := fun y m => hx y (List.mem_cons_of_mem _ m)
        refine wp_of (a := .bl true) (S' := S) rfl ⟨_, rfl, nofun, fun _ => ?_⟩
        refine wp_test (wp_din (wp_op (wp_of (a := .tup (.str w :: r)) (S' := S) rfl (wp_of (a := .int 0) (S' := S) rfl (wp_of (a := .str w) (S' := S) (ix0 S) ?_)))))
        refine wp_of (a := sortsD l) (S' := S) rfl (wp_of dic_in ⟨_, rfl, fun h => ?_, fun h => ?_⟩)
        · refine wp_of rfl (wp_of rfl ⟨?_, rfl⟩)
          rw [Bool.not_eq_true', Option.isSome_eq_false_iff, Option.isNone_iff_eq_none] at h
          unfold formR
          simp only [h]
        · rw [Bool.not_eq_false', Option.isSome_iff_exists] at h
          obtain ⟨s, hw⟩ := h
          have sl := hs w s hw
          refine wp_of rfl ?_
          refine wp_seq (wp_if (wp_test (wp_op (wp_of (a := .int (.str w :: r : List Dat).length) (S' := S) rfl ?_))))
          have get : ∀ (S : List Dat) (C : Dat → List Dat → Prop), C (.str s) S → wp (xDGet (xVar 0) (xOp dIxT (xVar 1) (xC (.int 0))) (startE N__law_has_form.length [sortsD l, .tup (.str w :: r)])) S C := fun S C k =>
            wp_dget (wp_of (a := sortsD l) (S' := S) rfl (wp_op (wp_of (a := .tup (.str w :: r)) (S' := S) rfl (wp_of (a := .int 0) (S' := S) rfl (wp_of (a := .str w) (S' := S) (ix0 S) (wp_of (dic_get hw) k))))))
          refine wp_op (wp_cb (wp_cons (get S _ (wp_nil ?_))))
          refine wp_need (decide_eq_true (by omega)) (wp_pure ?_)
          refine wp_of (a := .int 1) (S' := S) rfl (w_add (wp_ne ⟨_, rfl, fun h => ?_, fun h => ?_⟩))
          · refine wp_of rfl (wp_of rfl ⟨?_, rfl⟩)
            rw [List.length_cons, Bool.not_eq_true', decide_eq_false_iff_not] at h
            unfold formR
            simp only [hw]
            rw [decide_eq_false (by omega), Bool.false_and]
          · refine wp_of rfl ?_
            rw [List.length_cons, Bool.not_eq_false', decide_eq_true_eq] at h
            refine wp_ret (wp_cb (wp_cons (wp_lc ?_)))
            refine wp_bind (wp_cons (get S _ (wp_cons (wp_of (a := .tup r) (S' := S) ?_ (wp_nil ?_)))))
            · show (Out.ok (Dat.tup (cutD (.str w :: r) (some 1) none)) S : Out Dat) = _
              rw [cut1]
            · refine wp_of (a := zipD (signs s) r) (S' := S) rfl ⟨?_, ?_⟩
              · rw [zip_lenD, signs_map, List.length_map, signs_len]
                omega
              · rw [signs_map]
                refine wp_of (comp_zip (F := F) fun c x hc hx => ?_) ?_
                · have k := hF w s r hw rfl c hc x hx S
                  show (calm (Lf [.str c, x])) S = _
                  unfold calm
                  rw [k]
                · refine wp_nil (wp_of all_of ?_)
                  refine wp_of rfl ⟨?_, rfl⟩
                  unfold formR
                  simp only [hw]
                  rw [decide_eq_true (by omega), Bool.true_and]
      | _ => first | (refine wp_of (a := .bl false) (S' := S) rfl ⟨_, rfl, fun _ => ⟨fun _ => ?_, nofun⟩, nofun⟩; refine wp_of rfl ?_; exact wp_of rfl ⟨rfl, rfl⟩) | cases h3
  | _ => first | rfl | cases h1
/-! the two tables, the program's and the law's -/
def canon (p : Str) : Str := if p = "program" then "column" else if p = "edition" then "row" else p
theorem part_canon {p : Str} (h : p ∈ PTS) (d : Dat) : partB p d = partB (canon p) d := by
  simp only [PTS, List.mem_cons, List.not_mem_nil, or_false] at h
  rcases h with rfl | rfl | rfl | rfl | rfl | rfl | rfl | rfl <;> rfl
def alike : List (Str × Str) → List (Str × List Str) → Bool
  | [], [] => true
  | (k, s) :: l, (k', f) :: t => decide (k = k') && decide ((signsS s).map srt = f.map canon) && f.all (fun p => decide (p ∈ PTS)) && decide (s.length ≤ 100) && alike l t
  | _, _ => false
theorem alike_lk {w : Str} : ∀ {l : List (Str × Str)} {t : List (Str × List Str)}, alike l t = true → (lkS w l = none ∧ lkT w t = none) ∨ ∃ s f, lkS w l = some s ∧ lkT w t = some f ∧ (signsS s).map srt = f.map canon ∧ (∀ p ∈ f, p ∈ PTS) ∧ s.length ≤ 100
  | [], [], _ => .inl ⟨rfl, rfl⟩
  | [], _ :: _, h => by cases h
  | _ :: _, [], h => by cases h
  | (k, s) :: l, (k', f) :: t, h => by
    unfold alike at h
    simp only [Bool.and_eq_true, decide_eq_true_eq, List.all_eq_true] at h
    obtain ⟨⟨⟨⟨rfl, h2⟩, h3⟩, h4⟩, h5⟩ := h
    unfold lkS lkT
    by_cases e : (k == w) = true
    · rw [if_pos e, if_pos e]
      exact .inr ⟨s, f, rfl, rfl, h2, h3, h4⟩
    · rw [if_neg e, if_neg e]
      exact alike_lk h5
theorem zipB_map {F : Str → Dat → Bool} (g : Str → Str) : ∀ (ps : List Str) (items : List Dat), zipB F (ps.map g) items = zipB (fun p d => F (g p) d) ps items
  | [], _ => rfl
  | p :: ps, [] => rfl
  | p :: ps, d :: items => by
    show F (g p) d :: zipB F (ps.map g) items = F (g p) d :: zipB (fun p d => F (g p) d) ps items
    rw [zipB_map g ps items]
theorem zipB_congr {F G : Str → Dat → Bool} : ∀ (ps : List Str) (items : List Dat), (∀ p ∈ ps, ∀ d ∈ items, F p d = G p d) → zipB F ps items = zipB G ps items
  | [], _, _ => rfl
  | p :: ps, [], _ => rfl
  | p :: ps, d :: items, h => by
    show F p d :: zipB F ps items = G p d :: zipB G ps items
    rw [h p List.mem_cons_self d List.mem_cons_self, zipB_congr ps items fun p hp d hd => h p (List.mem_cons_of_mem _ hp) d (List.mem_cons_of_mem _ hd)]
theorem form_same {s : Str} {f : List Str} (h : (signsS s).map srt = f.map canon) (hp : ∀ p ∈ f, p ∈ PTS) (items : List Dat) : (decide (items.length = s.length) && (zipB (fun c x => partB (srt c) x) (signsS s) items).all id) = formZ f items := by
  unfold formZ
  have l : s.length = f.length := by
    have := congrArg List.length h
    rw [List.length_map, List.length_map, signs_len] at this
    exact this
  rw [l, ← zipB_map (F := partB) srt, h, zipB_map (F := partB) canon, zipB_congr (G := partB) f items fun p m d _ => (part_canon (hp p m) d).symm]
abbrev SORTS : List (Str × Str) := [("add", "n"), ("drop", "ns"), ("up", "n"), ("no up", "n"), ("down", "nr"), ("no down", "n"), ("fill", "nm"), ("fill back", "nmr"), ("release", "n"), ("withdraw", "n"), ("grow", "i"), ("purge", "i")]
theorem sorts_alike : alike SORTS t_STEP_FORMS = true := by decide +kernel
theorem sorts_signs {w s : Str} (h : lkS w SORTS = some s) : ∀ c ∈ signsS s, c ∈ SRT := by
  have : ∀ l : List (Str × Str), l.all (fun q => (signsS q.2).all fun c => decide (c ∈ SRT)) = true → lkS w l = some s → ∀ c ∈ signsS s, c ∈ SRT := fun l => by
    induction l with
    | nil => intro _ h; cases h
    | cons q l ih =>
      intro a h
      rw [List.all_cons, Bool.and_eq_true] at a
      unfold lkS at h
      by_cases e : (q.1 == w) = true
      · rw [if_pos e] at h
        cases h
        intro c hc
        have := List.all_eq_true.mp a.1 c hc
        exact of_decide_eq_true this
      · rw [if_neg e] at h
        exact ih a.2 h
  exact this SORTS (by decide +kernel) h
theorem form_step {d : Dat} : formR SORTS (fun c x => partB (srt c) x) d = stepB d := by
  cases d with
  | tup ds =>
    cases ds with
    | nil => rfl
    | cons x items =>
      cases x with
      | str w =>
        show (match lkS w SORTS with | some s => decide (items.length = s.length) && (zipB (fun c x => partB (srt c) x) (signsS s) items).all id | none => false) = (match lkT w t_STEP_FORMS with | some form => formZ form items | none => false)
        rcases alike_lk (w := w) sorts_alike with ⟨a, b⟩ | ⟨s', f, a, b, c, e, g⟩
        · rw [a, b]
        · rw [a, b]
          exact form_same c e items
      | _ => rfl
  | _ => rfl
theorem k_lawstep {d : Dat} (h : Gv d) (S : List Dat) : L__law_is_step0 [d] S = .ok (.bl (stepB d)) S := by
  have body : L__law_has_form0 = runD N__law_has_form.length (formBody L__law_fits0) := rfl
  refine eq_wp (wp_run (wp_seq (wp_of (a := .nx [some d, some (sortsD SORTS)]) (S' := S) rfl ?_)))
  refine wp_ret (wp_call (wp_cons (wp_of (a := sortsD SORTS) (S' := S) rfl (wp_cons (wp_of (a := d) (S' := S) rfl (wp_nil ?_))))))
  rw [body]
  refine wp_of (k_form (F := fun c x => partB (srt c) x) h (fun w s hw => ?_) (fun w s items hw e c hc x hx S => ?_) S) (wp_of rfl ⟨?_, rfl⟩)
  · rcases alike_lk (w := w) sorts_alike with ⟨a, _⟩ | ⟨s', f, a, b, c, e, g⟩
    · rw [hw] at a; cases a
    · rw [hw] at a; cases a; exact g
  · exact k_fits (.inl rfl) (sorts_signs hw c hc) ((h.2 _ e).2 x (List.mem_cons_of_mem _ hx)) S
  · rw [form_step]
end Zd

namespace Zd
open PySem PySem.Spec PyProof.Rows L2 Zg
/-- a value three levels deep -/
def Gw (d : Dat) : Prop := Gv d ∧ ∀ ds, d = .tup ds → ∀ x ∈ ds, Gv x
abbrev ST1 : List Str := ["step"]
/-- the form of an event, by the table; a cell beside itself is not asked -/
def evtF : Dat → Bool
  | .tup (.str w :: items) => match lkT w t_EVENT_FORMS with
    | some form => if form = ST1 then (match items with
      | [x] => stepB x
      | _ => false) else formZ form items
    | none => false
  | _ => false
def fitE (c : Str) (x : Dat) : Bool := if c = "t" then stepB x else partB (srt c) x
def alikeE : List (Str × Str) → List (Str × List Str) → Bool
  | [], [] => true
  | (k, s) :: l, (k', f) :: t => decide (k = k') && ((decide (s = "t") && decide (f = ST1)) || (decide (f ≠ ST1) && decide ((signsS s).map srt = f.map canon) && f.all (fun p => decide (p ∈ PTS)) && (signsS s).all (fun c => decide (c ∈ SRT)))) && decide (s.length ≤ 100) && alikeE l t
  | _, _ => false
theorem alikeE_lk {w : Str} : ∀ {l : List (Str × Str)} {t : List (Str × List Str)}, alikeE l t = true → (lkS w l = none ∧ lkT w t = none) ∨ ∃ s f, lkS w l = some s ∧ lkT w t = some f ∧ s.length ≤ 100 ∧ ((s = "t" ∧ f = ST1) ∨ (f ≠ ST1 ∧ (signsS s).map srt = f.map canon ∧ (∀ p ∈ f, p ∈ PTS) ∧ ∀ c ∈ signsS s, c ∈ SRT))
  | [], [], _ => .inl ⟨rfl, rfl⟩
  | [], _ :: _, h => by cases h
  | _ :: _, [], h => by cases h
  | (k, s) :: l, (k', f) :: t, h => by
    unfold alikeE at h
    simp only [Bool.and_eq_true, Bool.or_eq_true, decide_eq_true_eq, List.all_eq_true] at h
    obtain ⟨⟨⟨rfl, h2⟩, h4⟩, h5⟩ := h
    unfold lkS lkT
    by_cases e : (k == w) = true
    · rw [if_pos e, if_pos e]
      exact .inr ⟨s, f, rfl, rfl, h4, h2.imp id fun z => ⟨z.1.1.1, z.1.1.2, z.1.2, z.2⟩⟩
    · rw [if_neg e, if_neg e]
      exact alikeE_lk h5
abbrev ESORTS : List (Str × Str) := [("there", "nwi"), ("begin", "t"), ("end", "t"), ("set", "nwnwi"), ("copy", "nwnww"), ("come", "nwnwi"), ("visit", "w"), ("read", "nwnw"), ("match", "nwnwnw"), ("order", "nwnww")]
theorem esorts_alike : alikeE ESORTS t_EVENT_FORMS = true := by decide +kernel
theorem zipB_fit {ps : List Str} (h : ∀ c ∈ ps, c ∈ SRT) (items : List Dat) : zipB fitE ps items = zipB (fun c x => partB (srt c) x) ps items := zipB_congr ps items fun c m x _ => by
  have := h c m
  simp only [SRT, List.mem_cons, List.not_mem_nil, or_false] at this
  rcases this with rfl | rfl | rfl | rfl | rfl | rfl <;> rfl
theorem form_event {d : Dat} : formR ESORTS fitE d = evtF d := by
  cases d with
  | tup ds =>
    cases ds with
    | nil => rfl
    | cons x items =>
      cases x with
      | str w =>
        show (match lkS w ESORTS with | some s => decide (items.length = s.length) && (zipB fitE (signsS s) items).all id | none => false) = (match lkT w t_EVENT_FORMS with | some form => if form = ST1 then (match items with | [x] => stepB x | _ => false) else formZ form items | none => false)
        rcases alikeE_lk (w := w) esorts_alike with ⟨a, b⟩ | ⟨s', f, a, b, g, ⟨rfl, rfl⟩ | ⟨n, c, e, q⟩⟩
        · rw [a, b]
        · rw [a, b]
          show (decide (items.length = 1) && (zipB fitE ["t"] items).all id) = (if ST1 = ST1 then _ else _)
          rw [if_pos rfl]
          match items with
          | [] => rfl
          | [x] => show (true && ((fitE "t" x) && true)) = stepB x; rw [Bool.true_and, Bool.and_true]; rfl
          | x :: y :: r => show (decide ((x :: y :: r).length = 1) && _) = false; rw [decide_eq_false (by rw [List.length_cons, List.length_cons]; omega), Bool.false_and]
        · rw [a, b]
          show (decide (items.length = s'.length) && (zipB fitE (signsS s') items).all id) = if f = ST1 then _ else _
          rw [if_neg n, zipB_fit q]
          exact form_same c e items
      | _ => rfl
  | _ => rfl
theorem k_lawevent {d : Dat} (h : Gw d) (S : List Dat) : L__law_is_event [d] S = .ok (.bl (evtF d)) S := by
  have body : L__law_has_form1 = runD N__law_has_form.length (formBody L__law_fits1) := rfl
  refine eq_wp (wp_run (wp_seq (wp_of (a := .nx [some d, some (sortsD ESORTS)]) (S' := S) rfl ?_)))
  refine wp_ret (wp_call (wp_cons (wp_of (a := sortsD ESORTS) (S' := S) rfl (wp_cons (wp_of (a := d) (S' := S) rfl (wp_nil ?_))))))
  rw [body]
  refine wp_of (k_form (F := fitE) h.1 (fun w s hw => ?_) (fun w s items hw e c hc x hx S => ?_) S) (wp_of rfl ⟨?_, rfl⟩)
  · rcases alikeE_lk (w := w) esorts_alike with ⟨a, _⟩ | ⟨s', f, a, b, g, _⟩
    · rw [hw] at a; cases a
    · rw [hw] at a; cases a; exact g
  · rcases alikeE_lk (w := w) esorts_alike with ⟨a, _⟩ | ⟨s', f, a, b, g, ⟨rfl, rfl⟩ | ⟨n, _, _, q⟩⟩
    · rw [hw] at a; cases a
    · rw [hw] at a
      cases a
      have ec : c = "t" := List.mem_singleton.mp (show c ∈ ([("t" : Str)] : List Str) from hc)
      subst ec
      have gx : Gv x := h.2 _ e x (List.mem_cons_of_mem _ hx)
      refine eq_wp (wp_run ?_)
      refine wp_seq (wp_of (S' := S) rfl ?_)
      refine wp_seq (wp_of (S' := S) rfl ?_)
      refine wp_seq (wp_of (S' := S) rfl ?_)
      refine wp_seq (wp_if (wp_of (a := true) (S' := S) rfl ⟨fun _ => ?_, nofun⟩))
      refine wp_ret (wp_call (wp_cons (wp_of (a := x) (S' := S) rfl (wp_nil (wp_of (k_lawstep gx S) (wp_of rfl ⟨rfl, rfl⟩))))))
    · rw [hw] at a
      cases a
      have k := k_fits (L := L__law_fits1) (.inr rfl) (q c hc) (h.1.2 _ e |>.2 x (List.mem_cons_of_mem _ hx)) S
      rw [k]
      have := q c hc
      simp only [SRT, List.mem_cons, List.not_mem_nil, or_false] at this
      rcases this with rfl | rfl | rfl | rfl | rfl | rfl <;> rfl
  · rw [form_event]
end Zd

namespace Zd
open PySem PySem.Spec PyProof.Rows L2 Zg
theorem eqv_int (a b : Int) : PyData.eqv (.int a) (.int b) = (a == b) := by
  first | rfl | simp [PyData.eqv]
theorem in67 {n : Nat} {S : List Dat} : dIn true (.int n) (.tup [.int 6, .int 7]) S = .ok (.bl (!(((6 : Int) == (n : Int)) || ((7 : Int) == (n : Int))))) S := by
  show (M.need (shp (.int n) && shp (.tuple [.int 6, .int 7])) >>= fun _ => pure (Dat.bl (true != [PyData.int 6, .int 7].any fun z => PyData.eqv z (.int n))) : M Dat) S = _
  have h : (shp (.int n) && shp (.tuple [.int 6, .int 7])) = true := by
    have : shp (.int (n : Int)) = true := by
      unfold shp SeqAt.shaped
      simp [PyData.canLay0, PyData.depth]
    rw [this]
    decide +kernel
  rw [h]
  show Out.ok (Dat.bl (true != (PyData.eqv (.int 6) (.int n) || (PyData.eqv (.int 7) (.int n) || false)))) S = _
  rw [eqv_int, eqv_int, Bool.or_false, Bool.true_bne]
/-- what the law asks of an event that compares a cell with itself -/
def twB (ds : List Dat) (c1 c2 : Bool) : Bool := match ds with
  | x :: _ => (match x with
    | .str w => (w == "match" && c1) || (w == "order" && c2)
    | _ => false)
  | [] => false
theorem cutL {a : Dat} {r : List Dat} : cutD (a :: r) none (some 1) = [a] := by
  unfold cutD HT.sIx
  simp
def isW (w : Str) : Dat → Bool
  | .str v => v == w
  | _ => false
theorem eq1 {a : Dat} {w : Str} (h : dat a = true) : eqFs (eqF 60) [a] [.str w] = some (isW w a) := by
  cases a <;> first | (show some _ = some _; simp [eqFs, eqF, kdT, isW]; done) | (simp [eqFs, eqF, kdT, isW]; done) | cases h
theorem dEqT_of {xs ys : List Dat} {c : Bool} {S : List Dat} (h : eqFs (eqF 60) xs ys = some c) : dEqT (.tup xs) (.tup ys) S = .ok (.bl c) S := by
  show (M.opt (eqFs (eqF 60) xs ys) >>= fun c => pure (Dat.bl (false != c)) : M Dat) S = _
  rw [h]
  show Out.ok (Dat.bl (false != c)) S = _
  rw [Bool.false_bne]
theorem dEq_str {v w : Str} {S : List Dat} : dEq (.str v) (.str w) S = .ok (.bl (v == w)) S := by
  show (M.need (scal (V.str v) (V.str w)) >>= fun _ => pure (Dat.bl (decide (V.str v = V.str w))) : M Dat) S = _
  have e : decide (V.str v = V.str w) = (v == w) := by
    by_cases c : v = w
    · subst c; simp
    · rw [decide_eq_false fun z => c (by injection z), beq_eq_false_iff_ne.mpr c]
  rw [e]
  rfl
theorem dEq_int {v w : Int} {S : List Dat} : dEq (.int v) (.int w) S = .ok (.bl (v == w)) S := by
  show (M.need (scal (V.int v) (V.int w)) >>= fun _ => pure (Dat.bl (decide (V.int v = V.int w))) : M Dat) S = _
  have e : decide (V.int v = V.int w) = (v == w) := by
    by_cases c : v = w
    · subst c; simp
    · rw [decide_eq_false fun z => c (by injection z), beq_eq_false_iff_ne.mpr c]
  rw [e]
  rfl
theorem wp_sl {S : List Dat} {ρ : Env} {a : Env → M Dat} {l u : Env → M (Option Int)} {xs : List Dat} {lo hi : Option Int} {C : Dat → List Dat → Prop} (ha : a ρ S = .ok (.tup xs) S) (hl : l ρ S = .ok lo S) (hu : u ρ S = .ok hi S) (h : C (.tup (cutD xs lo hi)) S) : wp (jSl dCutT a l u ρ) S C :=
  wp_bind (wp_of ha (wp_bind (wp_of hl (wp_bind (wp_of hu (wp_of rfl h))))))
def EqOk (d : Dat) : Prop := ∀ ds, d = .tup ds → ds.length = 6 ∨ ds.length = 7 → ∃ c1 c2, eqFs (eqF 60) (cutD ds (some 3) (some 5)) (cutD ds (some 5) none) = some c1 ∧ eqFs (eqF 60) (cutD ds (some 4) (some 5)) (cutD ds (some 5) none) = some c2
theorem k_twice {d : Dat} (h : Gv d) (he : EqOk d) : ∃ b, (∀ S, L__law_is_cell_twice [d] S = .ok (.bl b) S) ∧ (b = false → ∀ w r c1 c2, d = .tup (.str w :: r) → r.length = 5 ∨ r.length = 6 → eqFs (eqF 60) (cutD (.str w :: r) (some 3) (some 5)) (cutD (.str w :: r) (some 5) none) = some c1 → eqFs (eqF 60) (cutD (.str w :: r) (some 4) (some 5)) (cutD (.str w :: r) (some 5) none) = some c2 → ((w == "match" && c1) || (w == "order" && c2)) = false) := by
  obtain ⟨⟨h1, _⟩, h2⟩ := h
  cases d with
  | tup ds =>
    by_cases l67 : ds.length = 6 ∨ ds.length = 7
    · obtain ⟨c1, c2, e1, e2⟩ := he ds rfl l67
      cases ds with
      | nil => rcases l67 with z | z <;> cases z
      | cons x r =>
        have dx := ((h2 _ rfl).2 x List.mem_cons_self).1
        have q1 := eq1 (w := "match") dx
        have q2 := eq1 (w := "order") dx
        generalize isW "match" x = m at q1
        generalize isW "order" x = o at q2
        have go : ∀ S, L__law_is_cell_twice [.tup (x :: r)] S = .ok (.bl ((m && c1) || (o && c2))) S := fun S => by
          refine eq_wp (wp_run (wp_seq (wp_if (wp_or (wp_of (a := false) (S' := S) rfl ⟨nofun, fun _ => ?_⟩)))))
          refine wp_test (wp_op (wp_of (a := .int (x :: r).length) (S' := S) rfl (wp_of (a := .tup [.int 6, .int 7]) (S' := S) rfl (wp_of in67 ⟨_, rfl, fun z => ?_, fun _ => ?_⟩))))
          · rw [Bool.not_eq_true', Bool.or_eq_false_iff, beq_eq_false_iff_ne, beq_eq_false_iff_ne] at z
            omega
          · refine wp_of rfl ?_
            refine wp_ret (wp_orV (wp_andV (wp_op (wp_sl (xs := x :: r) rfl rfl rfl ?_))))
            rw [cutL]
            refine wp_of (a := .tup [.str "match"]) (S' := S) rfl (wp_of (dEqT_of q1) ⟨_, rfl, fun hm => ?_, fun hm => ?_⟩)
            · subst hm
              refine wp_op (wp_sl (xs := x :: r) rfl rfl rfl (wp_sl (xs := x :: r) rfl rfl rfl (wp_of (dEqT_of e1) ⟨_, rfl, fun hc => ?_, fun hc => ?_⟩)))
              · subst hc
                exact wp_of rfl ⟨rfl, rfl⟩
              · subst hc
                refine wp_andV (wp_op (wp_sl (xs := x :: r) rfl rfl rfl ?_))
                rw [cutL]
                refine wp_of (a := .tup [.str "order"]) (S' := S) rfl (wp_of (dEqT_of q2) ⟨_, rfl, fun ho => ?_, fun ho => ?_⟩)
                · subst ho
                  refine wp_op (wp_sl (xs := x :: r) rfl rfl rfl (wp_sl (xs := x :: r) rfl rfl rfl (wp_of (dEqT_of e2) (wp_of rfl ⟨rfl, rfl⟩))))
                · subst ho
                  exact wp_of rfl ⟨rfl, rfl⟩
            · subst hm
              refine ⟨_, rfl, nofun, fun _ => ?_⟩
              refine wp_andV (wp_op (wp_sl (xs := x :: r) rfl rfl rfl ?_))
              rw [cutL]
              refine wp_of (a := .tup [.str "order"]) (S' := S) rfl (wp_of (dEqT_of q2) ⟨_, rfl, fun ho => ?_, fun ho => ?_⟩)
              · subst ho
                refine wp_op (wp_sl (xs := x :: r) rfl rfl rfl (wp_sl (xs := x :: r) rfl rfl rfl (wp_of (dEqT_of e2) (wp_of rfl ⟨rfl, rfl⟩))))
              · subst ho
                exact wp_of rfl ⟨rfl, rfl⟩
        refine ⟨_, go, fun hb w r' c1' c2' ed hl a1 a2 => ?_⟩
        cases ed
        rw [e1] at a1
        rw [e2] at a2
        cases a1
        cases a2
        have z1 := eq1 (a := .str w) (w := "match") rfl
        have z2 := eq1 (a := .str w) (w := "order") rfl
        rw [q1] at z1
        rw [q2] at z2
        cases z1
        cases z2
        exact hb
    · refine ⟨false, fun S => ?_, fun _ w r c1 c2 e hl => ?_⟩
      · refine eq_wp (wp_run (wp_seq (wp_if (wp_or (wp_of (a := false) (S' := S) rfl ⟨nofun, fun _ => ?_⟩)))))
        refine wp_test (wp_op (wp_of (a := .int ds.length) (S' := S) rfl (wp_of (a := .tup [.int 6, .int 7]) (S' := S) rfl (wp_of in67 ⟨_, rfl, fun z => ?_, fun z => ?_⟩))))
        · exact wp_of rfl (wp_of rfl ⟨rfl, rfl⟩)
        · rw [Bool.not_eq_false', Bool.or_eq_true, beq_iff_eq, beq_iff_eq] at z
          omega
      · cases e
        rw [List.length_cons] at l67
        omega
  | _ => first | exact ⟨false, fun S => rfl, fun _ w r c1 c2 e => nomatch e⟩ | cases h1
end Zd

namespace Zd
open PySem PySem.Spec PyProof.Rows L2 Zg
abbrev FMA : List Str := ["program", "edition", "column", "row", "column", "row"]
abbrev FOR : List Str := ["program", "edition", "column", "row", "row"]
theorem event_mem {z : Str} {form : List Str} (h : lkT z t_EVENT_FORMS = some form) : form.length ≤ 100 ∧ (form = ST1 ∨ (∀ p ∈ form, p ∈ PTS)) ∧ ∀ S : List Dat, dEqT (strsT form) (.tup [.str "step"]) S = .ok (.bl (decide (form = ST1))) S := by
  obtain ⟨k, m⟩ := lkT_mem h
  simp only [t_EVENT_FORMS, List.mem_cons, List.not_mem_nil, or_false, Prod.mk.injEq] at m
  rcases m with ⟨_, rfl⟩ | ⟨_, rfl⟩ | ⟨_, rfl⟩ | ⟨_, rfl⟩ | ⟨_, rfl⟩ | ⟨_, rfl⟩ | ⟨_, rfl⟩ | ⟨_, rfl⟩ | ⟨_, rfl⟩ | ⟨_, rfl⟩ <;> exact ⟨by decide, by decide, fun S => rfl⟩
theorem ixAt {n : Nat} {x : Dat} {r : List Dat} (h : r[n]? = some x) (S : List Dat) : dIxT (.tup r) (.int n) S = .ok x S := by
  show M.opt (atI r n) S = _
  have l : n < r.length := (List.getElem?_eq_some_iff.mp h).1
  have e : atI r (n : Int) = some x := by
    unfold atI ixN
    have : (n : Int) < (r.length : Int) := by omega
    simp [this, h]
  rw [e]
  rfl
theorem cut57 {r : List Dat} (h : r.length = 7) : cutD r (some 5) (some 7) = cutD r (some 5) none := by
  match r, h with
  | [a, b, c, d, e, f, g], _ => rfl
theorem cut45 {a b c d e f : Dat} : cutD [a, b, c, d, e, f] (some 4) (some 5) = [e] ∧ cutD [a, b, c, d, e, f] (some 5) none = [f] := ⟨rfl, rfl⟩
theorem eq_ints {i j : Int} : eqFs (eqF 60) [.int i] [.int j] = some (i == j) := by
  simp [eqFs, eqF, kdT]
theorem k_self {w : Str} {r : List Dat} {f : List Str} (hf : lkT w t_EVENT_FORMS = some f) (n : f ≠ ST1) (hz : formZ f r = true) (he : EqOk (.tup (.str w :: r)))
    (ht : ∀ c1 c2, r.length = 5 ∨ r.length = 6 → eqFs (eqF 60) (cutD (.str w :: r) (some 3) (some 5)) (cutD (.str w :: r) (some 5) none) = some c1 → eqFs (eqF 60) (cutD (.str w :: r) (some 4) (some 5)) (cutD (.str w :: r) (some 5) none) = some c2 → ((w == "match" && c1) || (w == "order" && c2)) = false) (S : List Dat) :
    L_compares_itself [.tup (.str w :: r)] S = .ok (.bl false) S := by
  refine eq_wp (wp_run (wp_seq (wp_if (wp_test (wp_op (wp_op (wp_of (a := .tup (.str w :: r)) (S' := S) rfl (wp_of (a := .int 0) (S' := S) rfl (wp_of (a := .str w) (S' := S) (ix0 S) (wp_of (a := .str "match") (S' := S) rfl (wp_of dEq_str ⟨_, rfl, fun h => ?_, fun h => ?_⟩)))))))))))
  · rw [beq_iff_eq] at h
    subst h
    have : f = FMA := by
      have : lkT "match" t_EVENT_FORMS = some FMA := by decide +kernel
      rw [hf] at this
      exact Option.some.inj this
    subst this
    unfold formZ at hz
    rw [Bool.and_eq_true, decide_eq_true_eq] at hz
    have l : r.length = 6 := hz.1
    obtain ⟨c1, c2, e1, e2⟩ := he _ rfl (.inr (by rw [List.length_cons, l]))
    have := ht c1 c2 (.inr l) e1 e2
    rw [beq_self_eq_true, Bool.true_and, Bool.or_eq_false_iff] at this
    obtain ⟨rfl, _⟩ := this
    refine wp_ret (wp_op (wp_sl (xs := .str "match" :: r) rfl rfl rfl (wp_sl (xs := .str "match" :: r) rfl rfl rfl ?_)))
    rw [cut57 (by rw [List.length_cons, l])]
    exact wp_of (dEqT_of e1) (wp_of rfl ⟨rfl, rfl⟩)
  · refine wp_of rfl ?_
    refine wp_ret (wp_andV (wp_op (wp_op (wp_of (a := .tup (.str w :: r)) (S' := S) rfl (wp_of (a := .int 0) (S' := S) rfl (wp_of (a := .str w) (S' := S) (ix0 S) (wp_of (a := .str "order") (S' := S) rfl (wp_of dEq_str ⟨_, rfl, fun h => ?_, fun h => ?_⟩))))))))
    · rw [beq_iff_eq] at h
      subst h
      have : f = FOR := by
        have : lkT "order" t_EVENT_FORMS = some FOR := by decide +kernel
        rw [hf] at this
        exact Option.some.inj this
      subst this
      unfold formZ at hz
      rw [Bool.and_eq_true, decide_eq_true_eq] at hz
      have l : r.length = 5 := hz.1
      match r, l with
      | [a, b, c, x, y], _ =>
        have hz := hz.2
        simp only [zipB, List.zip_cons_cons, List.zip_nil_right, List.map_cons, List.map_nil, List.all_cons, List.all_nil, id, Bool.and_eq_true] at hz
        obtain ⟨_, _, _, hx, hy, _⟩ := hz
        have ix : ∃ i, x = .int i := by cases x <;> first | exact ⟨_, rfl⟩ | cases hx
        have iy : ∃ i, y = .int i := by cases y <;> first | exact ⟨_, rfl⟩ | cases hy
        obtain ⟨i, rfl⟩ := ix
        obtain ⟨j, rfl⟩ := iy
        obtain ⟨c1, c2, e1, e2⟩ := he _ rfl (.inl rfl)
        have z := ht c1 c2 (.inl rfl) e1 e2
        rw [beq_self_eq_true, Bool.true_and, Bool.or_eq_false_iff] at z
        obtain ⟨_, rfl⟩ := z
        rw [cut45.1, cut45.2, eq_ints] at e2
        refine wp_op (wp_op (wp_of (a := .tup [.str "order", a, b, c, .int i, .int j]) (S' := S) rfl (wp_of (a := .int (4 : Nat)) (S' := S) rfl (wp_of (ixAt (n := 4) rfl S) ?_))))
        refine wp_op (wp_of (a := .tup [.str "order", a, b, c, .int i, .int j]) (S' := S) rfl (wp_of (a := .int (5 : Nat)) (S' := S) rfl (wp_of (ixAt (n := 5) rfl S) ?_)))
        rw [Option.some.injEq] at e2
        refine wp_of dEq_int ?_
        rw [e2]
        exact wp_of rfl ⟨rfl, rfl⟩
    · exact wp_of rfl ⟨rfl, rfl⟩
theorem evtF_of {w : Str} {items : List Dat} {form : List Str} (e : lkT w t_EVENT_FORMS = some form) : evtF (.tup (.str w :: items)) = if form = ST1 then (match items with | [x] => stepB x | _ => false) else formZ form items := by
  unfold evtF
  simp only [e]
  all_goals (split <;> first | rfl | (split <;> rfl))
theorem evtF_no {d : Dat} (e : lkT (fw d) t_EVENT_FORMS = none) : evtF d = false := by
  unfold evtF
  split
  · rename_i w items
    have e : lkT w t_EVENT_FORMS = none := e
    simp only [e]
  · rfl
/-- the program's look at an event -/
theorem k_isevent {d : Dat} (h : Gw d) (he : EqOk d) (ht : ∀ S, L__law_is_cell_twice [d] S = .ok (.bl false) S) (S : List Dat) : L_is_event_form [d] S = .ok (.bl (evtF d)) S := by
  have ⟨b, t1, t2⟩ := k_twice h.1 he
  have hb : b = false := by
    have := (t1 S).symm.trans (ht S)
    injection this with this
    injection this
  have t2 := t2 hb
  refine eq_wp (wp_run (wp_seq (wp_asg (wp_call (wp_cons (wp_of rfl (wp_nil (wp_of (k_eform h.1 S) ⟨_, rfl, ?_⟩))))))))
  cases e : lkT (fw d) t_EVENT_FORMS with
  | none =>
    refine wp_of rfl (wp_of rfl ⟨?_, rfl⟩)
    rw [evtF_no e]
  | some form =>
    obtain ⟨w, items, rfl, e2⟩ := fw_some (by decide) e
    obtain ⟨p1, p2, p3⟩ := event_mem e2
    have hd := h.1.2 _ rfl
    have hl := hd.1
    rw [List.length_cons] at hl
    refine wp_seq (wp_if (wp_or (wp_of (a := false) (S' := S) rfl ⟨nofun, fun _ => ?_⟩)))
    refine wp_test (wp_op (wp_of (a := .int (.str w :: items : List Dat).length) (S' := S) rfl (wp_op (wp_of (a := .int (form.map Dat.str).length) (S' := S) rfl (wp_of (a := .int 1) (S' := S) rfl (w_add (wp_ne ⟨_, rfl, fun h => ?_, fun h => ?_⟩)))))))
    · rw [List.length_map, List.length_cons, Bool.not_eq_true', decide_eq_false_iff_not] at h
      refine wp_of rfl (wp_of rfl ⟨?_, rfl⟩)
      rw [evtF_of e2]
      by_cases c : form = ST1
      · subst c
        simp only [if_true]
        match items, h with
        | [], _ => rfl
        | [x], h => exact absurd rfl h
        | x :: y :: r, _ => rfl
      · simp only [if_neg c]
        unfold formZ
        rw [decide_eq_false (by omega), Bool.false_and]
    · refine wp_of rfl ?_
      rw [List.length_map, List.length_cons, Bool.not_eq_false', decide_eq_true_eq] at h
      refine wp_seq (wp_if (wp_test (wp_op (wp_of (a := strsT form) (S' := S) rfl (wp_of (a := .tup [.str "step"]) (S' := S) rfl (wp_of (p3 S) ⟨_, rfl, fun c => ?_, fun c => ?_⟩))))))
      · have c := of_decide_eq_true c
        subst c
        have l : items.length = 1 := by have : ((items.length + 1 : Nat) : Int) = (([("step" : Str)]).length : Int) + 1 := h; simp at this; omega
        match items, l with
        | [x], _ =>
          have gx : Gv x := ‹Gw _›.2 _ rfl x (List.mem_cons_of_mem _ List.mem_cons_self)
          refine wp_ret (wp_call (wp_cons (wp_op (wp_of (a := .tup [.str w, x]) (S' := S) rfl (wp_of (a := .int (1 : Nat)) (S' := S) rfl (wp_of (ixAt (n := 1) rfl S) (wp_nil (wp_of (k_isstep gx S) (wp_of rfl ⟨?_, rfl⟩)))))))))
          rw [evtF_of e2, if_pos rfl]
      · have c := of_decide_eq_false c
        have pts := p2.resolve_left c
        have ev : evtF (.tup (.str w :: items)) = formZ form items := by
          rw [evtF_of e2, if_neg c]
        rw [ev]
        refine wp_of rfl ?_
        refine wp_ret (wp_andV (wp_call (wp_cons (wp_of (a := strsT form) (S' := S) rfl (wp_cons (wp_of (a := .tup items) (S' := S) ?_ (wp_nil ?_)))))))
        · show (Out.ok (Dat.tup (cutD (.str w :: items) (some 1) none)) S : Out Dat) = _
          rw [cut1]
        · refine wp_of (k_parts pts (fun x m => hd.2 x (List.mem_cons_of_mem _ m)) (by omega) p1 S) ⟨_, rfl, fun z => ?_, fun z => ?_⟩
          · rw [z]
            refine wp_notV (wp_call (wp_cons (wp_of (a := .tup (.str w :: items)) (S' := S) rfl (wp_nil (wp_of (k_self e2 c z he (fun c1 c2 => t2 w items c1 c2 rfl) S) ⟨_, rfl, wp_of rfl ⟨rfl, rfl⟩⟩)))))
          · rw [z]
            exact wp_of rfl ⟨rfl, rfl⟩
end Zd

namespace Zd
open PySem PySem.Spec PyProof.Rows L2 Zg
/-! ### rows -/
def b1 (d : Dat) : Prop := ∀ i, d = .int i → -(10 ^ 19) ≤ i ∧ i ≤ 10 ^ 19
def Bv (d : Dat) : Prop := b1 d ∧ ∀ ds, d = .tup ds → ∀ x ∈ ds, b1 x
def Bw (d : Dat) : Prop := Bv d ∧ ∀ ds, d = .tup ds → ∀ x ∈ ds, Bv x
def Wd (d : Dat) : Prop := (∃ s : Str, d = .str s ∧ s.length ≤ 100) ∨ ∃ i : Int, d = .int i ∧ -(10 ^ 19) ≤ i ∧ i ≤ 10 ^ 19
def tx : Dat → Str
  | .str s => s
  | .int i => toString i
  | _ => ""
theorem int_rep {i : Int} (h : -(10 ^ 19) ≤ i ∧ i ≤ 10 ^ 19) : (toString i : Str).length ≤ 100 := by
  have := PySem.int_text_length_le10 (a := i) (k := 20) (by decide) (by omega)
  rw [PySem.ofString_length]
  omega
theorem int_log {i : Int} (h : -(10 ^ 19) ≤ i ∧ i ≤ 10 ^ 19) : i.natAbs.log2 < 1920 := by
  by_cases z : i.natAbs = 0
  · rw [z]; decide
  · have : i.natAbs ≤ 10 ^ 19 := by omega
    have l : i.natAbs.log2 < 64 := by
      rw [Nat.log2_lt z]
      exact Nat.lt_of_le_of_lt this (by decide)
    omega
theorem fmt_of {d : Dat} (h : Wd d) (S : List Dat) : dFmt d S = .ok (.str (tx d)) S ∧ (tx d).length ≤ 100 := by
  rcases h with ⟨s, rfl, l⟩ | ⟨i, rfl, l⟩
  · refine ⟨?_, l⟩
    show (M.need (decide (s.length ≤ 100000)) >>= fun _ => pure (Dat.str s) : M Dat) S = _
    rw [decide_eq_true (by omega)]
    rfl
  · refine ⟨?_, int_rep l⟩
    show (M.need (decide (i.natAbs.log2 < 1920)) >>= fun _ => pure (Dat.str (toString i)) : M Dat) S = _
    rw [decide_eq_true (int_log l)]
    rfl
theorem strsD_map : ∀ ys : List Str, strsD (ys.map .str) = some ys
  | [] => rfl
  | y :: r => by rw [List.map_cons]; unfold strsD; rw [strsD_map r]; rfl
theorem wp_join {m1 m2 : Env → M Dat} {ρ : Env} {S : List Dat} {C : Dat → List Dat → Prop} (h : wp (m1 ρ) S fun a S1 => ∃ x, a = .str x ∧ wp (m2 ρ) S1 fun b S2 => ∃ ys : List Str, b = .lst (ys.map .str) ∧ (ys.map (·.length)).sum + ys.length * x.length ≤ 16777216 ∧ C (.str (Txt.join x ys)) S2) : wp (xJoin m1 m2 ρ) S C :=
  wp_bind (wp_mono h fun a S1 ⟨x, e, k⟩ => by
    subst e
    exact wp_opt rfl (wp_bind (wp_mono k fun b S2 ⟨ys, e, l, k⟩ => by
      subst e
      exact wp_opt rfl (wp_opt (strsD_map ys) (wp_need (decide_eq_true l) k)))))
theorem join_len (x : Str) (ys : List Str) {B N : Nat} (h : ∀ y ∈ ys, y.length ≤ B) (n : ys.length ≤ N) : (Txt.join x ys).length ≤ N * B + N * x.length ∧ (ys.map (·.length)).sum + ys.length * x.length ≤ N * B + N * x.length := by
  have a := StrLaws.sumLen_le ys h
  have b : (Txt.join x ys).length = (ys.map (·.length)).sum + (ys.length - 1) * x.length := PySem.size_glued x ys
  have c : ys.length * B ≤ N * B := Nat.mul_le_mul_right _ n
  have d : ys.length * x.length ≤ N * x.length := Nat.mul_le_mul_right _ n
  have e : (ys.length - 1) * x.length ≤ N * x.length := Nat.mul_le_mul_right _ (by omega)
  omega
theorem k_row {ds : List Dat} (h : ∀ x ∈ ds, Wd x) (l : ds.length ≤ 100) : ∃ z : Str, z.length ≤ 20000 ∧ ∀ S, L_row_of_step [.tup ds] S = .ok (.str z) S := by
  have jl := join_len " " (ds.map tx) (B := 100) (N := 100) (fun y hy => by
    obtain ⟨d, hd, rfl⟩ := List.mem_map.mp hy
    exact (fmt_of (h d hd) []).2) (by rw [List.length_map]; exact l)
  have one : ((" " : Str)).length = 1 := by decide +kernel
  rw [one] at jl
  refine ⟨Txt.join " " (ds.map tx), by omega, fun S => ?_⟩
  refine eq_wp (wp_run (wp_ret (wp_join (wp_of rfl ⟨_, rfl, ?_⟩))))
  refine wp_lc (wp_of (a := ds) (S' := S) rfl ⟨by omega, ?_⟩)
  refine wp_of (comp_map (f := fun d => .str (tx d)) fun d hd => (fmt_of (h d hd) S).1) ?_
  refine ⟨ds.map tx, by rw [List.map_map]; rfl, by rw [one]; omega, wp_of rfl ⟨rfl, rfl⟩⟩
theorem wp_js {m : Env → M Dat} {r : List (Env → M Dat)} {acc : Str} {ρ : Env} {S : List Dat} {C : Str → List Dat → Prop} (h : wp (m ρ) S fun d S1 => ∃ y, d = .str y ∧ (acc ++ y).length ≤ 100000 ∧ wp (xJs r (acc ++ y) ρ) S1 C) : wp (xJs (m :: r) acc ρ) S C :=
  wp_bind (wp_mono h fun d S1 ⟨y, e, l, k⟩ => by
    subst e
    exact wp_opt rfl (wp_need (decide_eq_true l) k))
theorem len_app (x y : Str) : (x ++ y).length = x.length + y.length := by
  show (x.cps ++ y.cps).size = _
  rw [Array.size_append]
  rfl
theorem part_wd {p : Str} {d : Dat} (h : partB p d = true) (g : g1 d) (b : b1 d) : Wd d := by
  cases d with
  | str s =>
    have m := g.2 s rfl
    have : ∀ s ∈ STR, s.length ≤ 100 := by decide +kernel
    exact .inl ⟨s, rfl, this s m⟩
  | int i => exact .inr ⟨i, rfl, b i rfl⟩
  | _ =>
    unfold partB at h
    repeat' split at h
    all_goals cases h
theorem zip_mem {F : Str → Dat → Bool} : ∀ {ps : List Str} {items : List Dat}, items.length = ps.length → (zipB F ps items).all id = true → ∀ x ∈ items, ∃ p, F p x = true
  | [], [], _, _, _, m => nomatch m
  | p :: ps, d :: items, l, h, x, m => by
    have h : (F p d && (zipB F ps items).all id) = true := h
    rw [Bool.and_eq_true] at h
    rcases List.mem_cons.mp m with rfl | m
    · exact ⟨p, h.1⟩
    · exact zip_mem (by simpa using l) h.2 x m
theorem form_wd {form : List Str} {items : List Dat} (h : formZ form items = true) (g : ∀ x ∈ items, g1 x ∧ b1 x) : ∀ x ∈ items, Wd x := fun x m => by
  unfold formZ at h
  rw [Bool.and_eq_true, decide_eq_true_eq] at h
  obtain ⟨p, hp⟩ := zip_mem h.1 h.2 x m
  exact part_wd hp (g x m).1 (g x m).2
theorem head_wd {w : Str} (g : g1 (.str w)) : Wd (.str w) := by
  have m := g.2 w rfl
  have : ∀ s ∈ STR, s.length ≤ 100 := by decide +kernel
  exact .inl ⟨w, rfl, this w m⟩
theorem k_rowstep {d : Dat} (h : Gv d) (b : Bv d) (t : stepB d = true) : ∃ z : Str, z.length ≤ 20000 ∧ ∀ S, L_row_of_step [d] S = .ok (.str z) S := by
  unfold stepB at t
  split at t
  · rename_i w items
    have hd := h.2 _ rfl
    have hb := b.2 _ rfl
    split at t
    · rename_i form e
      refine k_row (fun x m => ?_) hd.1
      rcases List.mem_cons.mp m with rfl | m
      · exact head_wd (hd.2 _ List.mem_cons_self)
      · exact form_wd t (fun x m => ⟨hd.2 x (List.mem_cons_of_mem _ m), hb x (List.mem_cons_of_mem _ m)⟩) x m
    · cases t
  · cases t
theorem lkT_mem2 {z : Str} {form : List Str} : ∀ {tab : List (Str × List Str)}, lkT z tab = some form → (z, form) ∈ tab
  | [], h => by cases h
  | (k, xs) :: r, h => by
    unfold lkT at h
    by_cases e : (k == z) = true
    · rw [if_pos e] at h
      cases h
      rw [beq_iff_eq.mp e]
      exact List.mem_cons_self
    · rw [if_neg e] at h
      exact List.mem_cons_of_mem _ (lkT_mem2 h)
theorem k_rowevent {d : Dat} (h : Gw d) (b : Bw d) (t : evtF d = true) : ∃ z : Str, z.length ≤ 20100 ∧ ∀ S, L_row_of_event [d] S = .ok (.str z) S := by
  unfold evtF at t
  split at t
  · rename_i w items
    have hd := h.1.2 _ rfl
    have hb := b.1.2 _ rfl
    split at t
    · rename_i form e
      have m := lkT_mem2 e
      have plain : form ≠ ST1 → (∀ S : List Dat, dInS false (.str w) (.tup [.str "begin", .str "end"]) S = .ok (.bl false) S) → ∃ z : Str, z.length ≤ 20100 ∧ ∀ S, L_row_of_event [.tup (.str w :: items)] S = .ok (.str z) S := fun n i => by
        rw [if_neg n] at t
        obtain ⟨z, l, k⟩ := k_row (ds := .str w :: items) (fun x m => by
          rcases List.mem_cons.mp m with rfl | m
          · exact head_wd (hd.2 _ List.mem_cons_self)
          · exact form_wd t (fun x m => ⟨hd.2 x (List.mem_cons_of_mem _ m), hb x (List.mem_cons_of_mem _ m)⟩) x m) hd.1
        refine ⟨z, by omega, fun S => ?_⟩
        refine eq_wp (wp_run (wp_seq (wp_if (wp_test (wp_op (wp_op (wp_of (a := .tup (.str w :: items)) (S' := S) rfl (wp_of (a := .int 0) (S' := S) rfl (wp_of (ix0 S) (wp_of (a := .tup [.str "begin", .str "end"]) (S' := S) rfl (wp_of (i S) ⟨_, rfl, nofun, fun _ => ?_⟩)))))))))))
        refine wp_of rfl ?_
        exact wp_ret (wp_call (wp_cons (wp_of (a := .tup (.str w :: items)) (S' := S) rfl (wp_nil (wp_of (k S) (wp_of rfl ⟨rfl, rfl⟩))))))
      have stepd : form = ST1 → w.length ≤ 10 → (∀ S : List Dat, dInS false (.str w) (.tup [.str "begin", .str "end"]) S = .ok (.bl true) S) → ∃ z : Str, z.length ≤ 20100 ∧ ∀ S, L_row_of_event [.tup (.str w :: items)] S = .ok (.str z) S := fun n wl i => by
        rw [if_pos n] at t
        split at t
        · rename_i x
          obtain ⟨z, l, k⟩ := k_rowstep (h.2 _ rfl x (List.mem_cons_of_mem _ List.mem_cons_self)) (b.2 _ rfl x (List.mem_cons_of_mem _ List.mem_cons_self)) t
          have one : ((" " : Str)).length = 1 := by decide +kernel
          have nil : (Str.empty).length = 0 := by decide +kernel
          refine ⟨Str.empty ++ w ++ " " ++ z, by rw [len_app, len_app, len_app, one, nil]; omega, fun S => ?_⟩
          refine eq_wp (wp_run (wp_seq (wp_if (wp_test (wp_op (wp_op (wp_of (a := .tup [.str w, x]) (S' := S) rfl (wp_of (a := .int 0) (S' := S) rfl (wp_of (ix0 S) (wp_of (a := .tup [.str "begin", .str "end"]) (S' := S) rfl (wp_of (i S) ⟨_, rfl, fun _ => ?_, nofun⟩)))))))))))
          refine wp_ret (wp_bind ?_)
          refine wp_js (wp_un (wp_op (wp_of (a := .tup [.str w, x]) (S' := S) rfl (wp_of (a := .int 0) (S' := S) rfl (wp_of (ix0 S) ?_)))))
          refine wp_of (fmt_of (.inl ⟨w, rfl, by omega⟩) S).1 ⟨_, rfl, by rw [len_app, nil]; show 0 + w.length ≤ _; omega, ?_⟩
          refine wp_js (wp_of (a := .str " ") (S' := S) rfl ⟨_, rfl, by rw [len_app, len_app, nil, one]; show 0 + w.length + 1 ≤ _; omega, ?_⟩)
          refine wp_js (wp_un (wp_call (wp_cons (wp_op (wp_of (a := .tup [.str w, x]) (S' := S) rfl (wp_of (a := .int (1 : Nat)) (S' := S) rfl (wp_of (ixAt (n := 1) rfl S) (wp_nil (wp_of (k S) ?_)))))))))
          refine wp_of (a := .str z) (S' := S) ?_ ⟨_, rfl, by rw [len_app, len_app, len_app, nil, one]; show 0 + w.length + 1 + z.length ≤ _; omega, ?_⟩
          · show (M.need (decide (z.length ≤ 100000)) >>= fun _ => pure (Dat.str z) : M Dat) S = _
            rw [decide_eq_true (by omega)]
            rfl
          · exact wp_of rfl (wp_of rfl ⟨rfl, rfl⟩)
        · cases t
      simp only [t_EVENT_FORMS, List.mem_cons, List.not_mem_nil, or_false, Prod.mk.injEq] at m
      rcases m with ⟨rfl, rfl⟩ | ⟨rfl, rfl⟩ | ⟨rfl, rfl⟩ | ⟨rfl, rfl⟩ | ⟨rfl, rfl⟩ | ⟨rfl, rfl⟩ | ⟨rfl, rfl⟩ | ⟨rfl, rfl⟩ | ⟨rfl, rfl⟩ | ⟨rfl, rfl⟩ <;> first | exact stepd rfl (by decide +kernel) (fun S => rfl) | exact plain (by decide) (fun S => rfl)
    · cases t
  · cases t
end Zd

namespace Zd
open PySem PySem.Spec PyProof.Rows L2 Zg
/-! ### a plan or a run shown -/
def enF : Nat → List Dat → List Dat
  | _, [] => []
  | n, x :: r => .tup [.int (n : Int), x] :: enF (n + 1) r
theorem enF_range : ∀ (xs : List Dat) (n : Nat), ((List.range' n xs.length).zip xs |>.map fun q => Dat.tup [.int (q.1 : Int), q.2]) = enF n xs
  | [], n => rfl
  | x :: r, n => by
    show Dat.tup [.int (n : Int), x] :: ((List.range' (n + 1) r.length).zip r |>.map fun q => Dat.tup [.int (q.1 : Int), q.2]) = _
    rw [enF_range r (n + 1)]
    rfl
theorem enumD_F (xs : List Dat) : enumD xs = enF 0 xs := by
  unfold enumD
  rw [List.range_eq_range', enF_range]
def badL (B : Dat → Bool) : Nat → List Dat → List Dat
  | _, [] => []
  | n, x :: r => if B x = true then badL B (n + 1) r else .int (n : Int) :: badL B (n + 1) r
theorem er_bind {α β : Type} {m : M α} {f : α → M β} {S S' : List Dat} {c : String} {fs : List Dat} (h : m S = .er c fs S') : (m >>= f) S = .er c fs S' := by
  rw [m_bind, h]
theorem ok_bind {α β : Type} {m : M α} {f : α → M β} {S S' : List Dat} {a : α} (h : m S = .ok a S') : (m >>= f) S = f a S' := by
  rw [m_bind, h]
abbrev shStep (c : String) (T : List Dat → M Dat) : Env → M Flow := sIf (bNot (bTest (xCall T (xCons (xVar 2) xNil)))) (sRaise c "index" (xCons (xVar 1) xNil)) sNx
abbrev shG : Env → Dat → Option Env := gT 2 (gCo (gN 1) (gCo (gN 2) gNl))
theorem eqw {α : Type} {m : M α} {S : List Dat} {x : α} (h : wp m S fun a S' => a = x ∧ S' = S) : m S = .ok x S := by
  obtain ⟨a, S', e, rfl, rfl⟩ := wp_ok h
  exact e
theorem k_loop2 {T : List Dat → M Dat} {B : Dat → Bool} {c : String} {S : List Dat} : ∀ (ds : List Dat) (n : Nat) (p q r : Option Dat), (∀ x ∈ ds, ∀ S, T [x] S = .ok (.bl (B x)) S) →
    (badL B n ds = [] → ∃ q' r', forD shG (shStep c T) (enF n ds) [p, q, r] S = .ok (.nx [p, q', r']) S) ∧ (∀ i l, badL B n ds = i :: l → forD shG (shStep c T) (enF n ds) [p, q, r] S = .er c [.obj c ["index"] [i]] S)
  | [], n, p, q, r, _ => ⟨fun _ => ⟨q, r, rfl⟩, nofun⟩
  | x :: ds, n, p, q, r, h => by
    have ih := k_loop2 (c := c) (S := S) ds (n + 1) p (some (.int n)) (some x) fun y m => h y (List.mem_cons_of_mem _ m)
    have e : forD shG (shStep c T) (enF n (x :: ds)) [p, q, r] S = (shStep c T [p, some (.int n), some x] >>= fun f => match f with
      | .nx ρ2 => forD shG (shStep c T) (enF (n + 1) ds) ρ2
      | .ct ρ2 => forD shG (shStep c T) (enF (n + 1) ds) ρ2
      | .bk ρ2 => pure (.nx ρ2)
      | .rt d => pure (.rt d)) S := rfl
    have t : (bNot (bTest (xCall T (xCons (xVar 2) xNil))) [p, some (.int n), some x]) S = .ok (!B x) S := by
      refine eqw (wp_not (wp_test (wp_call (wp_cons (wp_of (a := x) (S' := S) rfl (wp_nil (wp_of (h x List.mem_cons_self S) ⟨_, rfl, rfl, rfl⟩)))))))
    rw [e]
    cases b : B x with
    | true =>
      rw [b] at t
      have s : shStep c T [p, some (.int n), some x] S = .ok (.nx [p, some (.int n), some x]) S := by
        show (bNot (bTest (xCall T (xCons (xVar 2) xNil))) [p, some (.int n), some x] >>= fun y => if y = true then _ else _ : M Flow) S = _
        rw [ok_bind t]
        rfl
      rw [ok_bind s]
      have bl : badL B n (x :: ds) = badL B (n + 1) ds := by
        show (if B x = true then _ else _) = _
        rw [if_pos b]
      rw [bl]
      exact ih
    | false =>
      rw [b] at t
      have s : shStep c T [p, some (.int n), some x] S = .er c [.obj c ["index"] [.int n]] S := by
        show (bNot (bTest (xCall T (xCons (xVar 2) xNil))) [p, some (.int n), some x] >>= fun y => if y = true then _ else _ : M Flow) S = _
        rw [ok_bind t]
        rfl
      have bl : badL B n (x :: ds) = .int n :: badL B (n + 1) ds := by
        show (if B x = true then _ else _) = _
        rw [if_neg (by rw [b]; exact nofun)]
      rw [bl, er_bind s]
      exact ⟨nofun, fun i l z => by injection z with z; rw [z]⟩
abbrev shBody (c : String) (T R : List Dat → M Dat) : Env → M Flow := (sSeq (sIf (bNot (bTest (xCB dIsi (xCons (xVar 0) (xCons (xC (.ty "tuple")) xNil))))) (sRaise c "index" (xCons (xC .non) xNil)) sNx)
    (sSeq (sFor (iEnM (xCons (xVar 0) xNil)) shG (shStep c T))
    (sRet (xJoin (xC (.str "\n")) (xLc (iTp (xVar 0)) (gN 2) bYes (xCall R (xCons (xVar 2) xNil)) [2])))))
theorem show_plan_is : L_show_plan = runD 3 (shBody "BadPlan" L_is_step_form L_row_of_step) := rfl
theorem show_run_is : L_show_run = runD 3 (shBody "BadRun" L_is_event_form L_row_of_event) := rfl
def isTup : Dat → Bool
  | .tup _ => true
  | _ => false
def kind1 : Dat → Bool
  | .tup _ | .lst _ | .dic _ _ | .str _ | .int _ | .bl _ | .non => true
  | _ => false
theorem k_shownot {c : String} {T R : List Dat → M Dat} {d : Dat} {S : List Dat} (k : kind1 d = true) (h : isTup d = false) : runD 3 (shBody c T R) [d] S = .er c [.obj c ["index"] [.non]] S := by
  cases d <;> first | cases k; done | cases h; done | rfl
def rz (R : List Dat → M Dat) (x : Dat) : Str := match R [x] [] with
  | .ok (.str z) _ => z
  | _ => ""
theorem k_show {c : String} {T R : List Dat → M Dat} {B : Dat → Bool} {ds : List Dat} {S : List Dat} (hT : ∀ x ∈ ds, ∀ S, T [x] S = .ok (.bl (B x)) S) (hR : ∀ x ∈ ds, B x = true → ∃ z : Str, z.length ≤ 20100 ∧ ∀ S, R [x] S = .ok (.str z) S) (l : ds.length ≤ 100) :
    (badL B 0 ds = [] → ∃ z : Str, runD 3 (shBody c T R) [.tup ds] S = .ok (.str z) S) ∧ (∀ i l, badL B 0 ds = i :: l → runD 3 (shBody c T R) [.tup ds] S = .er c [.obj c ["index"] [i]] S) := by
  have k := k_loop2 (c := c) (S := S) ds 0 (some (.tup ds)) none none hT
  have e : runD 3 (shBody c T R) [.tup ds] S = ((forD shG (shStep c T) (enumD ds) [some (.tup ds), none, none] >>= fun f => (match f with
      | .nx ρ' => (sRet (xJoin (xC (.str "\n")) (xLc (iTp (xVar 0)) (gN 2) bYes (xCall R (xCons (xVar 2) xNil)) [2])) ρ' : M Flow)
      | g => pure g)) >>= outF) S := rfl
  rw [e, enumD_F]
  refine ⟨fun b => ?_, fun i l b => ?_⟩
  · obtain ⟨q, r, k⟩ := k.1 b
    have good : ∀ x ∈ ds, B x = true := by
      have : ∀ (ds : List Dat) (n : Nat), badL B n ds = [] → ∀ x ∈ ds, B x = true := fun ds => by
        induction ds with
        | nil => exact fun _ _ _ m => nomatch m
        | cons y r ih =>
          intro n z x m
          unfold badL at z
          by_cases c : B y = true
          · rw [if_pos c] at z
            rcases List.mem_cons.mp m with rfl | m
            · exact c
            · exact ih _ z x m
          · rw [if_neg c] at z
            cases z
      exact this ds 0 b
    have rr : ∀ x ∈ ds, (rz R x).length ≤ 20100 ∧ ∀ S, R [x] S = .ok (.str (rz R x)) S := fun x m => by
      obtain ⟨z, l, k⟩ := hR x m (good x m)
      have : rz R x = z := by unfold rz; rw [k []]
      rw [this]
      exact ⟨l, k⟩
    have jl := join_len "\n" (ds.map (rz R)) (B := 20100) (N := 100) (fun y hy => by
      obtain ⟨d, hd, rfl⟩ := List.mem_map.mp hy
      exact (rr d hd).1) (by rw [List.length_map]; exact l)
    have one : (("\n" : Str)).length = 1 := by decide +kernel
    rw [one] at jl
    refine ⟨Txt.join "\n" (ds.map (rz R)), ?_⟩
    refine eqw (wp_bind (wp_bind (wp_of k ?_)))
    refine wp_ret (wp_join (wp_of (S' := S) rfl ⟨_, rfl, ?_⟩))
    refine wp_lc (wp_of (a := ds) (S' := S) rfl ⟨by omega, ?_⟩)
    refine wp_of (comp_map (f := fun d => .str (rz R d)) fun d hd => ?_) ?_
    · show (calm (R [d])) S = _
      unfold calm
      rw [(rr d hd).2 S]
    · exact ⟨ds.map (rz R), by rw [List.map_map]; rfl, by rw [one]; omega, wp_of rfl ⟨rfl, rfl⟩⟩
  · rw [er_bind (er_bind (k.2 i l b))]
end Zd

namespace Zd
open PySem PySem.Spec PyProof.Rows L2 Zg
/-! ### what the law draws and bends -/
def lf (d : Dat) : Prop := (∃ s : Str, d = .str s ∧ s ∈ STR) ∨ ∃ i : Int, d = .int i ∧ -(10 ^ 19) ≤ i ∧ i ≤ 10 ^ 19
def lg (d : Dat) : Prop := lf d ∨ d = .non ∨ ∃ b, d = .bl b
def Od : Nat → Dat → Prop
  | 0, d => lf d
  | n + 1, d => lf d ∨ ∃ ds, d = .tup ds ∧ ds.length ≤ 7 ∧ ∀ x ∈ ds, Od n x
def Gd : Nat → Dat → Prop
  | 0, d => lg d
  | n + 1, d => lg d ∨ ∃ ds, (d = .tup ds ∨ d = .lst ds) ∧ ds.length ≤ 8 ∧ ∀ x ∈ ds, Gd n x
theorem Od.gd : ∀ {n : Nat} {d : Dat}, Od n d → Gd n d
  | 0, _, h => .inl h
  | n + 1, _, .inl h => .inl (.inl h)
  | n + 1, _, .inr ⟨ds, e, l, h⟩ => .inr ⟨ds, .inl e, by omega, fun x m => (h x m).gd⟩
theorem Gd.lf : ∀ {n : Nat} {d : Dat}, lg d → Gd n d
  | 0, _, h => h
  | _ + 1, _, h => .inl h
inductive Bt : Nat → Dat → Prop
  | ok {n : Nat} {d : Dat} (h : Gd n d) : Bt n d
  | dic {n : Nat} : Bt n (.dic [] [])
  | mid {n : Nat} {pre post : List Dat} {x : Dat} (hp : ∀ y ∈ pre, Od n y) (hx : Bt n x) (hq : ∀ y ∈ post, Od n y) (l : (pre ++ x :: post).length ≤ 8) : Bt (n + 1) (.tup (pre ++ x :: post))
theorem Gd.up : ∀ {n : Nat} {d : Dat}, Gd n d → Gd (n + 1) d
  | 0, _, h => .inl h
  | n + 1, _, .inl h => .inl h
  | n + 1, _, .inr ⟨ds, e, l, h⟩ => .inr ⟨ds, e, l, fun x m => (h x m).up⟩
theorem Od.up : ∀ {n : Nat} {d : Dat}, Od n d → Od (n + 1) d
  | 0, _, h => .inl h
  | n + 1, _, .inl h => .inl h
  | n + 1, _, .inr ⟨ds, e, l, h⟩ => .inr ⟨ds, e, l, fun x m => (h x m).up⟩
theorem cut_mem {ds : List Dat} {a b : Option Int} {x : Dat} (h : x ∈ cutD ds a b) : x ∈ ds := List.mem_of_mem_drop (List.mem_of_mem_take h)
theorem cut_le {ds : List Dat} {a b : Option Int} : (cutD ds a b).length ≤ ds.length := by
  unfold cutD
  rw [List.length_take, List.length_drop]
  omega
theorem cut_one {ds : List Dat} : (cutD ds none (some 1)).length ≤ 1 := by
  cases ds with
  | nil => exact Nat.le_trans cut_le (by decide)
  | cons a r => rw [cutL]; exact Nat.le_refl _
abbrev oddB : List Dat := [.non, .bl true, .bl false, .int 0, .int (-1), .str "", .str "id", .str "cut", .str "narrow", .str "empty", .str "Id", .str "abcdefghi", .tup [], .lst [], .dic [] [], .int (10 ^ 9), .int 7]
theorem oddB_bt {n : Nat} {x : Dat} (h : x ∈ oddB) : Bt (n + 1) x := by
  have st : ∀ s : Str, s ∈ STR → Bt (n + 1) (.str s) := fun s m => .ok (Gd.lf (.inl (.inl ⟨s, rfl, m⟩)))
  have it : ∀ i : Int, -(10 ^ 19) ≤ i ∧ i ≤ 10 ^ 19 → Bt (n + 1) (.int i) := fun i m => .ok (Gd.lf (.inl (.inr ⟨i, rfl, m⟩)))
  simp only [oddB, List.mem_cons, List.not_mem_nil, or_false] at h
  rcases h with rfl | rfl | rfl | rfl | rfl | rfl | rfl | rfl | rfl | rfl | rfl | rfl | rfl | rfl | rfl | rfl | rfl <;> first
    | exact .ok (Gd.lf (.inr (.inl rfl)))
    | exact .ok (Gd.lf (.inr (.inr ⟨_, rfl⟩)))
    | exact it _ (by decide)
    | exact st _ (by decide +kernel)
    | exact .ok (.inr ⟨[], .inl rfl, by decide, nofun⟩)
    | exact .ok (.inr ⟨[], .inr rfl, by decide, nofun⟩)
    | exact .dic
theorem w_odd {k n : Nat} {S : List Dat} {d : Dat} {C : Dat → List Dat → Prop} (h : Pot ℓ (k + 1) S) (o : Od n d) (q : ∀ x S', Bt (n + 1) x → Pot ℓ k S' → C x S') : wp (L__law_odd [.loc ℓ, d]) S C := by
  refine wp_run (wp_seq (wp_of (a := .nx [some (.loc ℓ), some d, some (.lst oddB)]) (S' := S) rfl ?_))
  have leaf : (∀ S, dIsi [d, .ty "tuple"] S = .ok (.bl false) S) → wp (sSeq (sIf (bTest (xCB dIsi (xCons (xVar 1) (xCons (xC (.ty "tuple")) xNil)))) (sAsg (xOp dCatL (xVar 2) (xOp dRepL (xLst (xCons (xCB dList (xCons (xVar 1) xNil)) (xCons (jSl dCutT (xVar 1) (oSome (xC (.int 1))) oNone) (xCons (jSl dCutT (xVar 1) oNone (oSome (xUn dNeg (xC (.int 1))))) (xCons (xOp dCatT (xVar 1) (jSl dCutT (xVar 1) oNone (oSome (xC (.int 1))))) (xCons (xTup (xCons (xVar 1) xNil)) xNil)))))) (xC (.int 2)))) (gN 2)) sNx)
    (sRet (xCall L__law_of (xCons (xVar 0) (xCons (xVar 2) xNil)))) [some (.loc ℓ), some d, some (.lst oddB)]) S fun f S' => wp (outF f) S' C := fun i => by
    refine wp_seq (wp_if (wp_test (wp_cb (wp_cons (wp_of (a := d) (S' := S) rfl (wp_cons (wp_of (a := .ty "tuple") (S' := S) rfl (wp_nil (wp_of (i S) ⟨_, rfl, nofun, fun _ => ?_⟩)))))))))
    refine wp_of rfl ?_
    refine wp_ret (wp_call (wp_cons (wp_of (a := .loc ℓ) (S' := S) rfl (wp_cons (wp_of (a := .lst oddB) (S' := S) rfl (wp_nil ?_))))))
    exact w_of h (by decide) (by decide) fun x S' m hp => wp_of rfl (q x S' (oddB_bt m) hp)
  have tupl : ∀ ds, d = .tup ds → ds.length ≤ 7 → (∃ m, n = m + 1 ∧ ∀ x ∈ ds, Od m x) → wp (sSeq (sIf (bTest (xCB dIsi (xCons (xVar 1) (xCons (xC (.ty "tuple")) xNil)))) (sAsg (xOp dCatL (xVar 2) (xOp dRepL (xLst (xCons (xCB dList (xCons (xVar 1) xNil)) (xCons (jSl dCutT (xVar 1) (oSome (xC (.int 1))) oNone) (xCons (jSl dCutT (xVar 1) oNone (oSome (xUn dNeg (xC (.int 1))))) (xCons (xOp dCatT (xVar 1) (jSl dCutT (xVar 1) oNone (oSome (xC (.int 1))))) (xCons (xTup (xCons (xVar 1) xNil)) xNil)))))) (xC (.int 2)))) (gN 2)) sNx)
    (sRet (xCall L__law_of (xCons (xVar 0) (xCons (xVar 2) xNil)))) [some (.loc ℓ), some d, some (.lst oddB)]) S fun f S' => wp (outF f) S' C := fun ds e l ⟨m, en, hm⟩ => by
    subst e en
    let more : List Dat := [.lst ds, .tup (cutD ds (some 1) none), .tup (cutD ds none (some (-1))), .tup (ds ++ cutD ds none (some 1)), .tup [.tup ds]]
    refine wp_seq (wp_if (wp_of (a := true) (S' := S) rfl ⟨fun _ => ?_, nofun⟩))
    refine wp_asg (wp_op (wp_of (a := .lst oddB) (S' := S) rfl (wp_op (wp_of (a := .lst more) (S' := S) ?_ (wp_of (a := .int 2) (S' := S) rfl (wp_of (a := .lst (more ++ more)) (S' := S) rfl (wp_of (a := .lst (oddB ++ (more ++ more))) (S' := S) rfl ⟨_, rfl, ?_⟩)))))))
    · refine eqw (wp_lst ?_)
      refine wp_cons (wp_of (a := .lst ds) (S' := S) rfl ?_)
      refine wp_cons (wp_of (a := .tup (cutD ds (some 1) none)) (S' := S) rfl ?_)
      refine wp_cons (wp_of (a := .tup (cutD ds none (some (-1)))) (S' := S) rfl ?_)
      refine wp_cons (wp_of (a := .tup (ds ++ cutD ds none (some 1))) (S' := S) ?_ ?_)
      · refine eqw (wp_op (wp_of (a := .tup ds) (S' := S) rfl (wp_of (a := .tup (cutD ds none (some 1))) (S' := S) rfl ?_)))
        show wp (M.need (decide (ds.length + (cutD ds none (some 1)).length ≤ 100000)) >>= fun _ => pure (Dat.tup (ds ++ cutD ds none (some 1)))) S _
        exact wp_need (decide_eq_true (by have := @cut_one ds; omega)) ⟨rfl, rfl⟩
      · exact wp_cons (wp_of (a := .tup [.tup ds]) (S' := S) rfl (wp_nil ⟨Nat.le_of_ble_eq_true rfl, rfl, rfl⟩))
    · refine wp_ret (wp_call (wp_cons (wp_of (a := .loc ℓ) (S' := S) rfl (wp_cons (wp_of (a := .lst (oddB ++ (more ++ more))) (S' := S) rfl (wp_nil ?_))))))
      refine w_of h (Nat.le_of_ble_eq_true rfl) (Nat.le_of_ble_eq_true rfl) fun x S' mx hp => wp_of rfl (q x S' ?_ hp)
      rcases List.mem_append.mp mx with mx | mx
      · exact oddB_bt mx
      · have mx : x ∈ more := (List.mem_append.mp mx).elim id id
        have gm : ∀ y ∈ ds, Gd (m + 1) y := fun y my => (hm y my).gd.up
        have mk : ∀ es : List Dat, es.length ≤ 8 → (∀ y ∈ es, y ∈ ds) → Bt (m + 1 + 1) (.tup es) := fun es le sub => .ok (.inr ⟨es, .inl rfl, le, fun y my => gm y (sub y my)⟩)
        simp only [more, List.mem_cons, List.not_mem_nil, or_false] at mx
        rcases mx with rfl | rfl | rfl | rfl | rfl
        · exact .ok (.inr ⟨ds, .inr rfl, by omega, gm⟩)
        · exact mk _ (by have := @cut_le ds (some 1) none; omega) fun y => cut_mem
        · exact mk _ (by have := @cut_le ds none (some (-1)); omega) fun y => cut_mem
        · refine mk _ ?_ fun y my => (List.mem_append.mp my).elim id cut_mem
          rw [List.length_append]
          have := @cut_one ds
          omega
        · refine .ok (.inr ⟨[.tup ds], .inl rfl, Nat.le_of_ble_eq_true rfl, fun y my => ?_⟩)
          cases List.mem_singleton.mp my
          exact .inr ⟨ds, .inl rfl, by omega, fun z mz => (hm z mz).gd⟩
  have lfc : lf d → _ := fun hl => leaf (by
    rcases hl with ⟨s, rfl, _⟩ | ⟨i, rfl, _⟩ <;> exact fun S => rfl)
  cases n with
  | zero => exact lfc o
  | succ m =>
    rcases o with o | ⟨ds, e, l, hm⟩
    · exact lfc o
    · exact tupl ds e l ⟨m, rfl, hm⟩
def bentBody (Lf : List Dat → M Dat) : Env → M Flow := (sSeq (sIf (bOr (bTest (xOp dEq (xVar 2) (xC (.int 0)))) (bOr (bNot (bTest (xCB dIsi (xCons (xVar 1) (xCons (xC (.ty "tuple")) xNil))))) (bOr (bTest (xOp dEqT (xVar 1) (xTup xNil))) (bTest (xOp dEq (xCall L__law_take (xCons (xVar 0) (xCons (xC (.int 6)) xNil))) (xC (.int 0))))))) (sRet (xCall L__law_odd (xCons (xVar 0) (xCons (xVar 1) xNil)))) sNx)
    (sSeq (sAsg (xCall L__law_take (xCons (xVar 0) (xCons (xCB dLen (xCons (xVar 1) xNil)) xNil))) (gN 3))
    (sRet (xOp dCatT (xOp dCatT (jSl dCutT (xVar 1) oNone (oSome (xVar 3))) (xTup (xCons (xCall Lf (xCons (xVar 0) (xCons (xOp dIxT (xVar 1) (xVar 3)) (xCons (xOp dSub (xVar 2) (xC (.int 1))) xNil)))) xNil))) (jSl dCutT (xVar 1) (oSome (xOp dAdd (xVar 3) (xC (.int 1)))) oNone)))))
theorem bent0_is : L__law_bent0 = runD 4 (bentBody LB) := rfl
theorem bent1_is : L__law_bent1 = runD 4 (bentBody L__law_bent0) := rfl
theorem bent2_is : L__law_bent2 = runD 4 (bentBody L__law_bent1) := rfl
theorem bent3_is : L__law_bent3 = runD 4 (bentBody L__law_bent2) := rfl
theorem bent4_is : L__law_bent4 = runD 4 (bentBody L__law_bent3) := rfl
end Zd

namespace Zd
open PySem PySem.Spec PyProof.Rows L2 Zg
theorem cut_to {ds : List Dat} {i : Nat} (h : i < ds.length) : cutD ds none (some (i : Int)) = ds.take i := by
  unfold cutD
  rw [HT.sIx_none, HT.sIx_nat, List.drop_zero, Nat.sub_zero, Nat.min_eq_left (by omega)]
theorem cut_from {ds : List Dat} {i : Nat} (h : i < ds.length) : cutD ds (some ((i : Int) + 1)) none = ds.drop (i + 1) := by
  unfold cutD
  rw [HT.sIx_none, show ((i : Int) + 1) = ((i + 1 : Nat) : Int) from rfl, HT.sIx_nat, Nat.min_eq_left (by omega)]
  exact List.take_of_length_le (by rw [List.length_drop]; omega)
abbrev bentRest (Lf : List Dat → M Dat) : Env → M Flow := (sSeq (sAsg (xCall L__law_take (xCons (xVar 0) (xCons (xCB dLen (xCons (xVar 1) xNil)) xNil))) (gN 3))
    (sRet (xOp dCatT (xOp dCatT (jSl dCutT (xVar 1) oNone (oSome (xVar 3))) (xTup (xCons (xCall Lf (xCons (xVar 0) (xCons (xOp dIxT (xVar 1) (xVar 3)) (xCons (xOp dSub (xVar 2) (xC (.int 1))) xNil)))) xNil))) (jSl dCutT (xVar 1) (oSome (xOp dAdd (xVar 3) (xC (.int 1)))) oNone))))
abbrev bentOdd : Env → M Flow := sRet (xCall L__law_odd (xCons (xVar 0) (xCons (xVar 1) xNil)))
theorem w_bodd {k n : Nat} {S : List Dat} {d e : Dat} {C : Flow → List Dat → Prop} (h : Pot ℓ (k + 1) S) (o : Od n d) (q : ∀ x S', Bt (n + 1) x → Pot ℓ k S' → C (.rt x) S') : wp (bentOdd [some (.loc ℓ), some d, some e, none]) S C := by
  refine wp_ret (wp_call (wp_cons (wp_of (a := .loc ℓ) (S' := S) rfl (wp_cons (wp_of (a := d) (S' := S) rfl (wp_nil ?_))))))
  exact w_odd (C := fun x S' => C (.rt x) S') h o q
abbrev bentQ : Env → M Bool := (bOr (bTest (xOp dEq (xVar 2) (xC (.int 0)))) (bOr (bNot (bTest (xCB dIsi (xCons (xVar 1) (xCons (xC (.ty "tuple")) xNil))))) (bOr (bTest (xOp dEqT (xVar 1) (xTup xNil))) (bTest (xOp dEq (xCall L__law_take (xCons (xVar 0) (xCons (xC (.int 6)) xNil))) (xC (.int 0)))))))
theorem w_bentQ {kk n e : Nat} {S : List Dat} {d : Dat} {C : Bool → List Dat → Prop} (h : Pot ℓ (kk + 1) S) (o : Od n d) (q1 : ∀ S', Pot ℓ kk S' → C true S')
    (q2 : ∀ (S' : List Dat) (m e' : Nat) (ds : List Dat), e = e' + 1 → d = .tup ds → 0 < ds.length → ds.length ≤ 7 → n = m + 1 → (∀ x ∈ ds, Od m x) → Pot ℓ kk S' → C false S') : wp (bentQ [some (.loc ℓ), some d, some (.int (e : Int)), none]) S C := by
  have h1 := h.le (l := kk) (by omega)
  refine wp_or (wp_test (wp_op (wp_of (a := .int (e : Int)) (S' := S) rfl (wp_of (a := .int 0) (S' := S) rfl (wp_of dEq_int ⟨_, rfl, fun _ => q1 S h1, fun e0 => ?_⟩)))))
  have e0 : e ≠ 0 := by
    rw [beq_eq_false_iff_ne] at e0
    omega
  obtain ⟨e', rfl⟩ := Nat.exists_eq_succ_of_ne_zero e0
  have leafc : lf d → wp ((bOr (bNot (bTest (xCB dIsi (xCons (xVar 1) (xCons (xC (.ty "tuple")) xNil))))) (bOr (bTest (xOp dEqT (xVar 1) (xTup xNil))) (bTest (xOp dEq (xCall L__law_take (xCons (xVar 0) (xCons (xC (.int 6)) xNil))) (xC (.int 0)))))) [some (.loc ℓ), some d, some (.int ((e' + 1 : Nat) : Int)), none]) S C := fun hl => by
    refine wp_or (wp_of (a := true) (S' := S) ?_ ⟨fun _ => q1 S h1, nofun⟩)
    rcases hl with ⟨s, rfl, _⟩ | ⟨i, rfl, _⟩ <;> rfl
  have tupc : ∀ (ds : List Dat) (m : Nat), d = .tup ds → ds.length ≤ 7 → n = m + 1 → (∀ x ∈ ds, Od m x) → wp ((bOr (bNot (bTest (xCB dIsi (xCons (xVar 1) (xCons (xC (.ty "tuple")) xNil))))) (bOr (bTest (xOp dEqT (xVar 1) (xTup xNil))) (bTest (xOp dEq (xCall L__law_take (xCons (xVar 0) (xCons (xC (.int 6)) xNil))) (xC (.int 0)))))) [some (.loc ℓ), some d, some (.int ((e' + 1 : Nat) : Int)), none]) S C := fun ds m ed l en hm => by
    subst ed
    refine wp_or (wp_of (a := false) (S' := S) rfl ⟨nofun, fun _ => ?_⟩)
    cases ds with
    | nil => exact wp_or (wp_of (a := true) (S' := S) rfl ⟨fun _ => q1 S h1, nofun⟩)
    | cons x r =>
      refine wp_or (wp_of (a := false) (S' := S) rfl ⟨nofun, fun _ => ?_⟩)
      refine wp_test (wp_op (wp_call (wp_cons (wp_of (a := .loc ℓ) (S' := S) rfl (wp_cons (wp_of (a := .int 6) (S' := S) rfl (wp_nil ?_)))))))
      refine w_take h (by decide) (by decide) fun z S' _ _ hp => ?_
      refine wp_of (a := .int 0) (S' := S') rfl ?_
      refine wp_of dEq_int ⟨_, rfl, ?_⟩
      cases z == 0 with
      | true => exact q1 S' hp
      | false => exact q2 S' m e' (x :: r) rfl rfl (by rw [List.length_cons]; omega) l en hm hp
  cases n with
  | zero => exact leafc o
  | succ m =>
    rcases o with o | ⟨ds, ed, l, hm⟩
    · exact leafc o
    · exact tupc ds m ed l rfl hm
theorem split_at {ds : List Dat} {i : Nat} (h : i < ds.length) : ∃ x, ds[i]? = some x ∧ ds = ds.take i ++ x :: ds.drop (i + 1) :=
  ⟨ds[i], List.getElem?_eq_getElem h, by rw [← List.drop_eq_getElem_cons h, List.take_append_drop]⟩
theorem w_rest {Lf : List Dat → M Dat} {k kk m e' : Nat} {S : List Dat} {ds : List Dat} {C : Flow → List Dat → Prop} (h : Pot ℓ (kk + 1) S) (l0 : 0 < ds.length) (l7 : ds.length ≤ 7) (hm : ∀ x ∈ ds, Od m x)
    (inn : ∀ (x : Dat) (S' : List Dat) (C' : Dat → List Dat → Prop), Od m x → Pot ℓ kk S' → (∀ y S2, Bt (m + 1) y → Pot ℓ k S2 → C' y S2) → wp (Lf [.loc ℓ, x, .int (e' : Int)]) S' C')
    (q : ∀ x S', Bt (m + 1 + 1) x → Pot ℓ k S' → C (.rt x) S') : wp (bentRest Lf [some (.loc ℓ), some (.tup ds), some (.int ((e' + 1 : Nat) : Int)), none]) S C := by
  refine wp_seq (wp_asg (wp_call (wp_cons (wp_of (a := .loc ℓ) (S' := S) rfl (wp_cons (wp_of (a := .int (ds.length : Int)) (S' := S) rfl (wp_nil ?_)))))))
  refine w_take h (by omega) (by omega) fun r S' r0 r1 hp => ⟨_, rfl, ?_⟩
  obtain ⟨i, rfl⟩ := Int.eq_ofNat_of_zero_le r0
  have il : i < ds.length := by omega
  obtain ⟨x, xe, sp⟩ := split_at il
  have xm : x ∈ ds := List.mem_of_getElem? xe
  refine wp_ret (wp_op (wp_op (wp_of (a := .tup (ds.take i)) (S' := S') ?_ ?_)))
  · show (Out.ok (Dat.tup (cutD ds none (some (i : Int)))) S' : Out Dat) = _
    rw [cut_to il]
  · refine wp_tup (wp_cons (wp_call (wp_cons (wp_of (a := .loc ℓ) (S' := S') rfl (wp_cons (wp_op (wp_of (a := .tup ds) (S' := S') rfl (wp_of (a := .int (i : Int)) (S' := S') rfl (wp_of (ixAt xe S') ?_)))))))))
    refine wp_cons (wp_of (a := .int (e' : Int)) (S' := S') ?_ (wp_nil ?_))
    · show (Out.ok (Dat.int (((e' + 1 : Nat) : Int) - 1)) S' : Out Dat) = _
      rw [show (((e' + 1 : Nat) : Int) - 1) = (e' : Int) by omega]
    · refine inn x S' _ (hm x xm) hp fun y S2 hy hp2 => wp_nil ⟨Nat.le_of_ble_eq_true rfl, ?_⟩
      have lt : (ds.take i).length ≤ 7 := by rw [List.length_take]; omega
      have ld : (ds.drop (i + 1)).length ≤ 7 := by rw [List.length_drop]; omega
      have lsum : (ds.take i).length + 1 + (ds.drop (i + 1)).length ≤ 7 := by rw [List.length_take, List.length_drop]; omega
      refine wp_of (a := .tup (ds.take i ++ [y])) (S' := S2) ?_ ?_
      · show (M.need (decide ((ds.take i).length + 1 ≤ 100000)) >>= fun _ => pure (Dat.tup (ds.take i ++ [y])) : M Dat) S2 = _
        rw [decide_eq_true (by omega)]
        rfl
      · refine wp_of (a := .tup (ds.drop (i + 1))) (S' := S2) ?_ ?_
        · show (Out.ok (Dat.tup (cutD ds (some ((i : Int) + 1)) none)) S2 : Out Dat) = _
          rw [cut_from il]
        · refine wp_of (a := .tup (ds.take i ++ [y] ++ ds.drop (i + 1))) (S' := S2) ?_ ?_
          · show (M.need (decide ((ds.take i ++ [y]).length + (ds.drop (i + 1)).length ≤ 100000)) >>= fun _ => pure (Dat.tup (ds.take i ++ [y] ++ ds.drop (i + 1))) : M Dat) S2 = _
            rw [decide_eq_true (by rw [List.length_append]; show (ds.take i).length + 1 + _ ≤ _; omega)]
            rfl
          · refine q _ S2 ?_ hp2
            rw [List.append_assoc]
            refine Bt.mid (fun z mz => (hm z (List.mem_of_mem_take mz)).up) hy (fun z mz => (hm z (List.mem_of_mem_drop mz)).up) ?_
            show (ds.take i ++ y :: ds.drop (i + 1)).length ≤ 8
            rw [List.length_append, List.length_cons]
            omega
end Zd

namespace Zd
open PySem PySem.Spec PyProof.Rows L2 Zg
def BentOk (Lf : List Dat → M Dat) (j : Nat) : Prop := ∀ (ℓ k n e : Nat) (S : List Dat) (d : Dat) (C : Dat → List Dat → Prop), e ≤ j → Pot ℓ (k + 2 * j + 2) S → Od n d → (∀ x S', Bt (n + 1) x → Pot ℓ k S' → C x S') → wp (Lf [.loc ℓ, d, .int (e : Int)]) S C
theorem bent_body {Lf : List Dat → M Dat} {k kk n e : Nat} {S : List Dat} {d : Dat} {C : Dat → List Dat → Prop} (h : Pot ℓ (kk + 2) S) (kl : k ≤ kk) (o : Od n d)
    (inn : ∀ (m e' : Nat) (x : Dat) (S' : List Dat) (C' : Dat → List Dat → Prop), e = e' + 1 → Od m x → Pot ℓ kk S' → (∀ y S2, Bt (m + 1) y → Pot ℓ k S2 → C' y S2) → wp (Lf [.loc ℓ, x, .int (e' : Int)]) S' C')
    (q : ∀ x S', Bt (n + 1) x → Pot ℓ k S' → C x S') : wp (runD 4 (bentBody Lf) [.loc ℓ, d, .int (e : Int)]) S C := by
  refine wp_run (wp_seq (wp_if ?_))
  refine w_bentQ (kk := kk + 1) h o (fun S' hp => ⟨fun _ => ?_, nofun⟩) (fun S' m e' ds ee ed l0 l7 en hm hp => ⟨nofun, fun _ => ?_⟩)
  · refine w_bodd (k := k) (hp.le (by omega)) o fun x S2 b hp2 => ?_
    exact wp_of rfl (q x S2 b hp2)
  · subst ee ed en
    refine wp_of rfl ?_
    refine w_rest hp l0 l7 hm (fun x S2 C' ox hp2 q2 => inn m e' x S2 C' rfl ox hp2 q2) fun x S2 b hp2 => ?_
    exact wp_of rfl (q x S2 b hp2)
theorem bent_ok0 : BentOk L__law_bent0 0 := fun ℓ k n e S d C el h o q => by
  rw [bent0_is]
  refine bent_body (kk := k) h (Nat.le_refl _) o (fun m e' x S' C' ee => ?_) q
  omega
theorem bent_step {Lf : List Dat → M Dat} {j : Nat} (ih : BentOk Lf j) : BentOk (runD 4 (bentBody Lf)) (j + 1) := fun ℓ k n e S d C el h o q => by
  refine bent_body (kk := k + 2 * j + 2) h (by omega) o (fun m e' x S' C' ee ox hp q2 => ?_) q
  exact ih ℓ k m e' S' x C' (by omega) hp ox q2
theorem bent_ok4 : BentOk L__law_bent4 4 := by
  have a1 : BentOk L__law_bent1 1 := bent1_is ▸ bent_step bent_ok0
  have a2 : BentOk L__law_bent2 2 := bent2_is ▸ bent_step a1
  have a3 : BentOk L__law_bent3 3 := bent3_is ▸ bent_step a2
  exact bent4_is ▸ bent_step a3
/-- what is drawn is of the kind that is bent -/
theorem fl_lf {d : Dat} (h : Fl d) : lf d := by
  rcases h with ⟨s, rfl, m⟩ | ⟨i, rfl, l⟩
  · refine .inl ⟨s, rfl, ?_⟩
    rcases m with m | m
    · exact List.mem_append_left _ m
    · have : ∀ s ∈ WDS, s ∈ STR := by decide +kernel
      exact this s m
  · exact .inr ⟨i, rfl, l⟩
theorem step_od {d : Dat} (h : StepD d) : Od 1 d := by
  obtain ⟨ds, rfl, l, _, m⟩ := h
  exact .inr ⟨ds, rfl, by omega, fun x mx => fl_lf (m x mx)⟩
theorem ev_od {d : Dat} (h : EvD d) : Od 2 d := by
  obtain ⟨ds, rfl, l, _, m⟩ := h
  refine .inr ⟨ds, rfl, l, fun x mx => ?_⟩
  rcases m x mx with f | s
  · exact .inl (fl_lf f)
  · exact step_od s
/-- what every member of a bent value is -/
theorem lg_g1 {d : Dat} (h : lg d) : g1 d ∧ b1 d := by
  rcases h with (⟨s, rfl, m⟩ | ⟨i, rfl, l⟩) | rfl | ⟨b, rfl⟩
  · exact ⟨⟨rfl, fun x e => by cases e; exact m⟩, nofun⟩
  · exact ⟨⟨rfl, nofun⟩, fun x e => by cases e; exact l⟩
  · exact ⟨⟨rfl, nofun⟩, nofun⟩
  · exact ⟨⟨rfl, nofun⟩, nofun⟩
theorem Gd.g1 : ∀ {n : Nat} {d : Dat}, Gd n d → Zd.g1 d ∧ b1 d
  | 0, _, h => lg_g1 h
  | n + 1, _, .inl h => lg_g1 h
  | n + 1, _, .inr ⟨ds, e, _, _⟩ => by rcases e with rfl | rfl <;> exact ⟨⟨rfl, nofun⟩, nofun⟩
theorem Gd.mem : ∀ {n : Nat} {ds : List Dat}, Gd n (.tup ds) → ds.length ≤ 8 ∧ ∀ x ∈ ds, ∃ m, Gd m x
  | 0, _, h => by rcases h with (⟨s, e, _⟩ | ⟨i, e, _⟩) | e | ⟨b, e⟩ <;> cases e
  | n + 1, _, .inl h => by rcases h with (⟨s, e, _⟩ | ⟨i, e, _⟩) | e | ⟨b, e⟩ <;> cases e
  | n + 1, _, .inr ⟨es, e, l, h⟩ => by
    rcases e with e | e
    · cases e
      exact ⟨l, fun x m => ⟨n, h x m⟩⟩
    · cases e
theorem Bt.g1 {n : Nat} {d : Dat} (h : Bt n d) : Zd.g1 d ∧ b1 d := by
  cases h with
  | ok h => exact h.g1
  | dic => exact ⟨⟨rfl, nofun⟩, nofun⟩
  | mid _ _ _ _ => exact ⟨⟨rfl, nofun⟩, nofun⟩
theorem Bt.mem {n : Nat} {ds : List Dat} (h : Bt n (.tup ds)) : ds.length ≤ 8 ∧ ∀ x ∈ ds, ∃ m, Bt m x := by
  generalize e : Dat.tup ds = d at h
  cases h with
  | ok h =>
    subst e
    exact ⟨h.mem.1, fun x m => (h.mem.2 x m).imp fun _ g => .ok g⟩
  | dic => cases e
  | @mid n pre post x hp hx hq l =>
    cases e
    refine ⟨l, fun y m => ?_⟩
    rcases List.mem_append.mp m with m | m
    · exact ⟨n, .ok (hp y m).gd⟩
    · rcases List.mem_cons.mp m with rfl | m
      · exact ⟨n, hx⟩
      · exact ⟨n, .ok (hq y m).gd⟩
theorem Bt.gv {n : Nat} {d : Dat} (h : Bt n d) : Gv d ∧ Bv d :=
  ⟨⟨h.g1.1, fun ds e => by subst e; exact ⟨by have := h.mem.1; omega, fun x m => by obtain ⟨k, b⟩ := h.mem.2 x m; exact b.g1.1⟩⟩,
   ⟨h.g1.2, fun ds e x m => by subst e; obtain ⟨k, b⟩ := h.mem.2 x m; exact b.g1.2⟩⟩
theorem Bt.gw {n : Nat} {d : Dat} (h : Bt n d) : Gw d ∧ Bw d :=
  ⟨⟨h.gv.1, fun ds e x m => by subst e; obtain ⟨k, b⟩ := h.mem.2 x m; exact b.gv.1⟩,
   ⟨h.gv.2, fun ds e x m => by subst e; obtain ⟨k, b⟩ := h.mem.2 x m; exact b.gv.2⟩⟩
end Zd

namespace Zd
open PySem PySem.Spec PyProof.Rows L2 Zg
/-- no dict within -/
inductive Nd : Nat → Dat → Prop
  | leaf {n : Nat} {d : Dat} (h : lg d) : Nd n d
  | tup {n : Nat} {ds : List Dat} (h : ∀ x ∈ ds, Nd n x) : Nd (n + 1) (.tup ds)
  | lst {n : Nat} {ds : List Dat} (h : ∀ x ∈ ds, Nd n x) : Nd (n + 1) (.lst ds)
theorem Gd.nd : ∀ {n : Nat} {d : Dat}, Gd n d → Nd n d
  | 0, _, h => .leaf h
  | n + 1, _, .inl h => .leaf h
  | n + 1, _, .inr ⟨ds, e, _, h⟩ => by
    rcases e with rfl | rfl
    · exact .tup fun x m => (h x m).nd
    · exact .lst fun x m => (h x m).nd
theorem eqFs_some {f : Dat → Dat → Option Bool} : ∀ {xs ys : List Dat}, (∀ x ∈ xs, ∀ y ∈ ys, (f x y).isSome = true) → (eqFs f xs ys).isSome = true
  | [], [], _ => rfl
  | [], _ :: _, _ => rfl
  | _ :: _, [], _ => rfl
  | x :: xs, y :: ys, h => by
    have h1 := h x List.mem_cons_self y List.mem_cons_self
    have h2 := eqFs_some (f := f) (xs := xs) (ys := ys) fun a ha b hb => h a (List.mem_cons_of_mem _ ha) b (List.mem_cons_of_mem _ hb)
    rw [Option.isSome_iff_exists] at h1 h2
    obtain ⟨a, h1⟩ := h1
    obtain ⟨b, h2⟩ := h2
    unfold eqFs
    simp [h1, h2]
theorem Bt.lmem {n : Nat} {ds : List Dat} (h : Bt n (.lst ds)) : ∀ x ∈ ds, ∃ m, Bt m x := by
  generalize e : Dat.lst ds = d at h
  cases h with
  | @ok n d h =>
    subst e
    cases n with
    | zero => rcases h with (⟨s, e, _⟩ | ⟨i, e, _⟩) | e | ⟨b, e⟩ <;> cases e
    | succ n =>
      rcases h with h | ⟨es, e, _, h⟩
      · rcases h with (⟨s, e, _⟩ | ⟨i, e, _⟩) | e | ⟨b, e⟩ <;> cases e
      · rcases e with e | e
        · cases e
        · cases e
          exact fun x m => ⟨n, .ok (h x m)⟩
  | dic => cases e
  | mid _ _ _ _ => cases e
theorem eqF_nd : ∀ (k : Nat) {n m : Nat} {d e : Dat}, Nd n d → Bt m e → n < k → (eqF k d e).isSome = true ∧ (eqF k e d).isSome = true
  | 0, _, _, _, _, _, _, h => absurd h (Nat.not_lt_zero _)
  | k + 1, n, m, d, e, hd, he, h => by
    have de : dat e = true := he.g1.1.1
    cases hd with
    | leaf hl =>
      rcases hl with (⟨s, rfl, _⟩ | ⟨i, rfl, _⟩) | rfl | ⟨b, rfl⟩ <;> cases e <;> first | exact ⟨rfl, rfl⟩ | cases de
    | @tup n ds hx =>
      cases e with
      | tup ys => exact ⟨eqFs_some fun x mx y my => by obtain ⟨q, b⟩ := he.mem.2 y my; exact (eqF_nd k (hx x mx) b (by omega)).1, eqFs_some fun y my x mx => by obtain ⟨q, b⟩ := he.mem.2 y my; exact (eqF_nd k (hx x mx) b (by omega)).2⟩
      | _ => first | exact ⟨rfl, rfl⟩ | cases de
    | @lst n ds hx =>
      cases e with
      | lst ys => exact ⟨eqFs_some fun x mx y my => by obtain ⟨q, b⟩ := he.lmem y my; exact (eqF_nd k (hx x mx) b (by omega)).1, eqFs_some fun y my x mx => by obtain ⟨q, b⟩ := he.lmem y my; exact (eqF_nd k (hx x mx) b (by omega)).2⟩
      | _ => first | exact ⟨rfl, rfl⟩ | cases de
theorem bt_sides {n : Nat} {ds : List Dat} (h : Bt n (.tup ds)) : (∀ x ∈ ds.take 5, ∃ m, m ≤ n ∧ Nd m x) ∨ (∀ x ∈ ds.drop 5, ∃ m, m ≤ n ∧ Nd m x) := by
  generalize e : Dat.tup ds = d at h
  cases h with
  | @ok n d h =>
    subst e
    refine .inl fun x m => ?_
    have m := List.mem_of_mem_take m
    cases n with
    | zero => rcases h with (⟨s, e, _⟩ | ⟨i, e, _⟩) | e | ⟨b, e⟩ <;> cases e
    | succ n =>
      rcases h with h | ⟨es, e, _, h⟩
      · rcases h with (⟨s, e, _⟩ | ⟨i, e, _⟩) | e | ⟨b, e⟩ <;> cases e
      · rcases e with e | e
        · cases e
          exact ⟨n, by omega, (h x m).nd⟩
        · cases e
  | dic => cases e
  | @mid n pre post x hp hx hq l =>
    cases e
    by_cases c : 5 ≤ pre.length
    · refine .inl fun y m => ⟨n, by omega, (hp y ?_).gd.nd⟩
      rw [List.take_append_of_le_length c] at m
      exact List.mem_of_mem_take m
    · refine .inr fun y m => ⟨n, by omega, (hq y ?_).gd.nd⟩
      rw [List.drop_append, List.drop_eq_nil_of_le (by omega), List.nil_append] at m
      obtain ⟨j, hj⟩ : ∃ j, 5 - pre.length = j + 1 := ⟨5 - pre.length - 1, by omega⟩
      rw [hj, List.drop_succ_cons] at m
      exact List.mem_of_mem_drop m
theorem cut_take {ds : List Dat} {i : Nat} {x : Dat} (h : x ∈ cutD ds (some (i : Int)) (some ((5 : Nat) : Int))) : x ∈ ds.take 5 := by
  unfold cutD at h
  rw [HT.sIx_nat, HT.sIx_nat] at h
  rw [← List.drop_take] at h
  have := List.mem_of_mem_drop h
  have le : min 5 ds.length ≤ 5 := Nat.min_le_left _ _
  exact List.take_subset_take_left ds le this
theorem cut_drop {ds : List Dat} {x : Dat} (h : x ∈ cutD ds (some ((5 : Nat) : Int)) none) (l : 5 ≤ ds.length) : x ∈ ds.drop 5 := by
  unfold cutD at h
  rw [HT.sIx_nat, Nat.min_eq_left l] at h
  exact List.mem_of_mem_take h
theorem Bt.eqOk {n : Nat} {d : Dat} (h : Bt n d) (hn : n < 60) : EqOk d := fun ds e l => by
  subst e
  have l5 : 5 ≤ ds.length := by omega
  have all : ∀ i : Nat, (eqFs (eqF 60) (cutD ds (some (i : Int)) (some ((5 : Nat) : Int))) (cutD ds (some ((5 : Nat) : Int)) none)).isSome = true := fun i => eqFs_some fun x mx y my => by
    have tx := cut_take mx
    have ty := cut_drop my l5
    obtain ⟨a, ba⟩ := h.mem.2 x (List.mem_of_mem_take tx)
    obtain ⟨b, bb⟩ := h.mem.2 y (List.mem_of_mem_drop ty)
    rcases bt_sides h with z | z
    · obtain ⟨m, ml, mn⟩ := z x tx
      exact (eqF_nd 60 mn bb (by omega)).1
    · obtain ⟨m, ml, mn⟩ := z y ty
      exact (eqF_nd 60 mn ba (by omega)).2
  have a3 := all 3
  have a4 := all 4
  rw [Option.isSome_iff_exists] at a3 a4
  obtain ⟨c1, e1⟩ := a3
  obtain ⟨c2, e2⟩ := a4
  exact ⟨c1, c2, e1, e2⟩
end Zd

namespace Zd
open PySem PySem.Spec PyProof.Rows L2 Zg
/-! ### the text of a value -/
structure Shw (n b : Nat) (y : PyData) : Prop where
  sh : y.showable = true
  dp : y.depth ≤ n
  ls : y.leavesShort 24 = true
  bk : y.bulk ≤ b
structure Shws (n b : Nat) (ys : List PyData) : Prop where
  sh : PyData.showableAll ys = true
  dp : PyData.depthAll ys ≤ n
  ls : PyData.leavesShortAll 24 ys = true
  bk : PyData.bulkAll ys ≤ b
theorem Shws.nil {n : Nat} : Shws n 0 [] := ⟨by simp only [PyData.showableAll], by simp only [PyData.depthAll, Nat.zero_le], by simp only [PyData.leavesShortAll], by simp only [PyData.bulkAll, Nat.le_refl]⟩
theorem Shws.cons {n b c : Nat} {y : PyData} {ys : List PyData} (h : Shw n b y) (k : Shws n c ys) : Shws n (b + 1 + c) (y :: ys) :=
  ⟨by simp only [PyData.showableAll, h.sh, k.sh, Bool.and_self], by simp only [PyData.depthAll]; exact Nat.max_le.mpr ⟨h.dp, k.dp⟩, by simp only [PyData.leavesShortAll, h.ls, k.ls, Bool.and_self], by simp only [PyData.bulkAll]; have := h.bk; have := k.bk; omega⟩
theorem Shws.tup {n b : Nat} {ys : List PyData} (h : Shws n b ys) : Shw (n + 1) b (.tuple ys) :=
  ⟨by simp only [PyData.showable]; exact h.sh, by simp only [PyData.depth]; have := h.dp; omega, by simp only [PyData.leavesShort]; exact h.ls, by simp only [PyData.bulk]; exact h.bk⟩
theorem Shws.lst {n b : Nat} {ys : List PyData} (h : Shws n b ys) : Shw (n + 1) b (.list ys) :=
  ⟨by simp only [PyData.showable]; exact h.sh, by simp only [PyData.depth]; have := h.dp; omega, by simp only [PyData.leavesShort]; exact h.ls, by simp only [PyData.bulk]; exact h.bk⟩
theorem Shw.le {n b m c : Nat} {y : PyData} (h : Shw n b y) (h1 : n ≤ m) (h2 : b ≤ c) : Shw m c y := ⟨h.sh, Nat.le_trans h.dp h1, h.ls, Nat.le_trans h.bk h2⟩
theorem Shws.le {n b m c : Nat} {y : List PyData} (h : Shws n b y) (h1 : n ≤ m) (h2 : b ≤ c) : Shws m c y := ⟨h.sh, Nat.le_trans h.dp h1, h.ls, Nat.le_trans h.bk h2⟩
theorem shw_non : Shw 0 20 .none := ⟨by simp only [PyData.showable], by simp only [PyData.depth, Nat.le_refl], by simp only [PyData.leavesShort], by simp only [PyData.bulk]; decide⟩
theorem shw_bl {b : Bool} : Shw 0 20 (.bool b) := ⟨by simp only [PyData.showable], by simp only [PyData.depth, Nat.le_refl], by simp only [PyData.leavesShort], by simp only [PyData.bulk]; decide⟩
theorem log_lt {i : Int} (h : -(10 ^ 19) ≤ i ∧ i ≤ 10 ^ 19) : i.natAbs.log2 < 1920 := by
  by_cases z : i.natAbs = 0
  · rw [z]; decide
  · rw [Nat.log2_lt z]
    have : i.natAbs ≤ 10 ^ 19 := by omega
    exact Nat.lt_of_le_of_lt this (by decide +kernel)
theorem shw_int {i : Int} (h : -(10 ^ 19) ≤ i ∧ i ≤ 10 ^ 19) : Shw 0 20 (.int i) := by
  refine ⟨by simp only [PyData.showable]; exact decide_eq_true (log_lt h), by simp only [PyData.depth, Nat.le_refl], ?_, by simp only [PyData.bulk]; decide⟩
  simp only [PyData.leavesShort, PyData.shown]
  have := PySem.int_text_length_le10 (a := i) (k := 20) (by decide) (by omega)
  refine decide_eq_true ?_
  rw [PySem.ofString_length]
  omega
def strB (s : Str) : Bool := (s.cps.toList.all fun c => decide (c < 16 ^ 8)) && decide (s.cps.size ≤ 20)
theorem shw_str {s : Str} (h : strB s = true) : Shw 0 20 (.str s) := by
  unfold strB at h
  rw [Bool.and_eq_true, decide_eq_true_eq] at h
  exact ⟨by simp only [PyData.showable], by simp only [PyData.depth, Nat.le_refl], by simp only [PyData.leavesShort]; exact h.1, by simp only [PyData.bulk]; exact h.2⟩
theorem str_ok : ∀ s ∈ STR, strB s = true := by decide +kernel
def bb : Nat → Nat
  | 0 => 20
  | n + 1 => 8 * (bb n + 1)
theorem bb_le : ∀ n, bb n ≤ bb (n + 1)
  | 0 => by decide
  | n + 1 => by
    have := bb_le n
    show 8 * (bb n + 1) ≤ 8 * (bb (n + 1) + 1)
    omega
theorem bb20 : ∀ n, 20 ≤ bb n
  | 0 => Nat.le_refl _
  | n + 1 => Nat.le_trans (bb20 n) (bb_le n)
abbrev Sw (n : Nat) (d : Dat) : Prop := ∃ y, toPy d = some y ∧ Shw (n + 1) (bb n) y ∧ y.hasDict = false
abbrev Sd (n : Nat) (d : Dat) : Prop := ∃ y, toPyD d = some y ∧ Shw (n + 1) (bb n) y
theorem Sw.up {n : Nat} {d : Dat} (h : Sw n d) : Sw (n + 1) d := by
  obtain ⟨y, e, s, k⟩ := h
  exact ⟨y, e, s.le (by omega) (bb_le n), k⟩
theorem Sd.up {n : Nat} {d : Dat} (h : Sd n d) : Sd (n + 1) d := by
  obtain ⟨y, e, s⟩ := h
  exact ⟨y, e, s.le (by omega) (bb_le n)⟩
theorem lf_s {n : Nat} {d : Dat} (h : lf d) : Sw n d ∧ Sd n d := by
  rcases h with ⟨s, rfl, m⟩ | ⟨i, rfl, l⟩
  · exact ⟨⟨.str s, rfl, (shw_str (str_ok s m)).le (Nat.zero_le _) (bb20 n), rfl⟩, ⟨.str s, rfl, (shw_str (str_ok s m)).le (Nat.zero_le _) (bb20 n)⟩⟩
  · exact ⟨⟨.int i, rfl, (shw_int l).le (Nat.zero_le _) (bb20 n), rfl⟩, ⟨.int i, rfl, (shw_int l).le (Nat.zero_le _) (bb20 n)⟩⟩
theorem lg_s {n : Nat} {d : Dat} (h : lg d) : Sw n d ∧ Sd n d := by
  rcases h with h | rfl | ⟨b, rfl⟩
  · exact lf_s h
  · exact ⟨⟨.none, rfl, shw_non.le (Nat.zero_le _) (bb20 n), rfl⟩, ⟨.none, rfl, shw_non.le (Nat.zero_le _) (bb20 n)⟩⟩
  · exact ⟨⟨.bool b, rfl, shw_bl.le (Nat.zero_le _) (bb20 n), rfl⟩, ⟨.bool b, rfl, shw_bl.le (Nat.zero_le _) (bb20 n)⟩⟩
theorem sw_all {n : Nat} : ∀ (ds : List Dat), (∀ x ∈ ds, Sw n x) → ∃ ys, toPys ds = some ys ∧ Shws (n + 1) (ds.length * (bb n + 1)) ys ∧ PyData.hasDictAll ys = false
  | [], _ => ⟨[], rfl, Shws.nil.le (Nat.le_refl _) (Nat.zero_le _), rfl⟩
  | d :: ds, h => by
    obtain ⟨y, e, s, k⟩ := h d List.mem_cons_self
    obtain ⟨ys, es, ss, ks⟩ := sw_all ds fun x m => h x (List.mem_cons_of_mem _ m)
    refine ⟨y :: ys, ?_, (Shws.cons s ss).le (Nat.le_refl _) ?_, ?_⟩
    · rw [toPys, e, es]; rfl
    · rw [List.length_cons, Nat.add_mul]; omega
    · simp only [PyData.hasDictAll, k, ks, Bool.or_self]
theorem sd_all {n : Nat} : ∀ (ds : List Dat), (∀ x ∈ ds, Sd n x) → ∃ ys, toPysD ds = some ys ∧ Shws (n + 1) (ds.length * (bb n + 1)) ys
  | [], _ => ⟨[], rfl, Shws.nil.le (Nat.le_refl _) (Nat.zero_le _)⟩
  | d :: ds, h => by
    obtain ⟨y, e, s⟩ := h d List.mem_cons_self
    obtain ⟨ys, es, ss⟩ := sd_all ds fun x m => h x (List.mem_cons_of_mem _ m)
    refine ⟨y :: ys, ?_, (Shws.cons s ss).le (Nat.le_refl _) ?_⟩
    · rw [toPysD, e, es]; rfl
    · rw [List.length_cons, Nat.add_mul]; omega
theorem len8 {l n : Nat} (h : l ≤ 8) : l * (bb n + 1) ≤ bb (n + 1) := Nat.mul_le_mul_right _ h
theorem sw_tup {n : Nat} {ds : List Dat} (l : ds.length ≤ 8) (h : ∀ x ∈ ds, Sw n x) : Sw (n + 1) (.tup ds) := by
  obtain ⟨ys, e, s, k⟩ := sw_all ds h
  exact ⟨.tuple ys, by rw [toPy, e]; rfl, s.tup.le (Nat.le_refl _) (len8 l), by simp only [PyData.hasDict]; exact k⟩
theorem sw_lst {n : Nat} {ds : List Dat} (l : ds.length ≤ 8) (h : ∀ x ∈ ds, Sw n x) : Sw (n + 1) (.lst ds) := by
  obtain ⟨ys, e, s, k⟩ := sw_all ds h
  exact ⟨.list ys, by rw [toPy, e]; rfl, s.lst.le (Nat.le_refl _) (len8 l), by simp only [PyData.hasDict]; exact k⟩
theorem sd_tup {n : Nat} {ds : List Dat} (l : ds.length ≤ 8) (h : ∀ x ∈ ds, Sd n x) : Sd (n + 1) (.tup ds) := by
  obtain ⟨ys, e, s⟩ := sd_all ds h
  exact ⟨.tuple ys, by rw [toPyD, e]; rfl, s.tup.le (Nat.le_refl _) (len8 l)⟩
theorem od_s : ∀ {n : Nat} {d : Dat}, Od n d → Sw n d ∧ Sd n d
  | 0, _, h => lf_s h
  | n + 1, _, .inl h => lf_s h
  | n + 1, _, .inr ⟨ds, e, l, h⟩ => by
    subst e
    exact ⟨sw_tup (by omega) fun x m => (od_s (h x m)).1, sd_tup (by omega) fun x m => (od_s (h x m)).2⟩
theorem gd_s : ∀ {n : Nat} {d : Dat}, Gd n d → Sw n d
  | 0, _, h => (lg_s h).1
  | n + 1, _, .inl h => (lg_s h).1
  | n + 1, _, .inr ⟨ds, e, l, h⟩ => by
    rcases e with rfl | rfl
    · exact sw_tup l fun x m => gd_s (h x m)
    · exact sw_lst l fun x m => gd_s (h x m)
theorem toPys_no {x : Dat} (e : toPy x = none) : ∀ {ds : List Dat}, x ∈ ds → toPys ds = none
  | d :: ds, m => by
    rw [toPys]
    rcases List.mem_cons.mp m with rfl | m
    · rw [e]; rfl
    · rw [toPys_no e m]
      cases toPy d <;> rfl
theorem bt_s {n : Nat} {d : Dat} (h : Bt n d) : Sw n d ∨ (toPy d = none ∧ Sd n d ∧ isRf d = true) := by
  induction h with
  | ok h => exact .inl (gd_s h)
  | @dic n => exact .inr ⟨rfl, ⟨.dict [], rfl, ⟨by simp only [PyData.showable, PyData.showableKv], by simp only [PyData.depth, PyData.depthKv]; omega, by simp only [PyData.leavesShort, PyData.leavesShortKv], by simp only [PyData.bulk, PyData.bulkKv]; exact Nat.zero_le _⟩⟩, rfl⟩
  | @mid n pre post x hp hx hq l ih =>
    rcases ih with ih | ⟨e, ih, _⟩
    · refine .inl (sw_tup l fun y m => ?_)
      rcases List.mem_append.mp m with m | m
      · exact (od_s (hp y m)).1
      · rcases List.mem_cons.mp m with rfl | m
        · exact ih
        · exact (od_s (hq y m)).1
    · refine .inr ⟨?_, sd_tup l fun y m => ?_, rfl⟩
      · rw [toPy, toPys_no e (List.mem_append_right _ List.mem_cons_self)]; rfl
      · rcases List.mem_append.mp m with m | m
        · exact (od_s (hp y m)).2
        · rcases List.mem_cons.mp m with rfl | m
          · exact ih
          · exact (od_s (hq y m)).2
theorem bb4 : ∀ n, n ≤ 4 → bb n ≤ 86600
  | 0, _ => by decide
  | 1, _ => by decide
  | 2, _ => by decide
  | 3, _ => by decide
  | 4, _ => by decide
  | n + 5, h => by omega
theorem shown_le {n : Nat} {y : PyData} (h : Shw (n + 1) (bb n) y) (hn : n ≤ 4) : y.shown.length ≤ sizeLine := by
  have l := PyData.shown_le_bulk 24 (by decide) y h.ls
  have := bb4 n hn
  have := h.bk
  rw [sizeLine_eq]
  omega
theorem okShow_of {n : Nat} {y : PyData} (h : Shw (n + 1) (bb n) y) (hn : n ≤ 4) (d : y.hasDict = false) : okShow y = true := by
  have e := shown_le h hn
  have s := h.sh
  have dp := h.dp
  unfold okShow
  rw [s, d, decide_eq_true (show y.depth ≤ 64 by omega), decide_eq_true e]
  cases y with
  | int i => simp only [PyData.showable] at s; simp only [s]; rfl
  | _ => rfl
theorem repr_sw {n : Nat} {d : Dat} (h : Sw n d) (hn : n ≤ 4) : ∃ z : Str, ∀ S, dRepr2 [d] S = .ok (.str z) S := by
  obtain ⟨y, e, s, k⟩ := h
  refine ⟨y.shown, fun S => ?_⟩
  unfold dRepr2
  simp only [e, okShow_of s hn k]
  rfl
theorem repr_ok {n : Nat} {d : Dat} (h : Bt n d) (hn : n ≤ 4) : ∃ z : Str, ∀ S, dRepr2 [d] S = .ok (.str z) S := by
  rcases bt_s h with h | ⟨e, ⟨y, ey, s⟩, r⟩
  · exact repr_sw h hn
  · refine ⟨y.shown, fun S => ?_⟩
    have o : okShowD y = true := by
      have e2 := shown_le s hn
      have dp := s.dp
      unfold okShowD
      rw [s.sh, decide_eq_true (show y.depth ≤ 64 by omega), decide_eq_true e2]
      rfl
    unfold dRepr2
    simp only [e, ey, r]
    show (M.need (okShowD y) >>= fun _ => pure (Dat.str y.shown) : M Dat) S = _
    rw [o]
    rfl
end Zd

namespace Zd
open PySem PySem.Spec PyProof.Rows L2 Zg
theorem powz {S : List Dat} : dPowZ (.int (10 ^ 60)) (.int 5) S = .ok (.int ((10 ^ 60) ^ 5)) S := by
  have h : bPowZ (10 ^ 60) 5 = true := by decide +kernel
  show (M.need (bPowZ (10 ^ 60) 5) >>= fun _ => pure (Dat.int ((10 ^ 60) ^ (5 : Int).toNat)) : M Dat) S = _
  rw [h]
  rfl
theorem pow60 {S : List Dat} : dPow (.int 10) (.int 60) S = .ok (.int (10 ^ 60)) S := by
  have h : bPow 10 60 = true := by decide +kernel
  show (M.need (bPow 10 60) >>= fun _ => pure (Dat.int (10 ^ (60 : Int).toNat)) : M Dat) S = _
  rw [h]
  rfl
theorem pow18 {S : List Dat} : dPow (.int 10) (.int 18) S = .ok (.int (10 ^ 18)) S := by
  have h : bPow 10 18 = true := by decide +kernel
  show (M.need (bPow 10 18) >>= fun _ => pure (Dat.int (10 ^ (18 : Int).toNat)) : M Dat) S = _
  rw [h]
  rfl
abbrev potOwn : Env → M Dat := xOp dMul (xOp dMod (xCB dInt (xCons (xCB dAbs (xCons (xVar 2) xNil)) xNil)) (xOp dPowZ (xOp dPow (xC (.int 10)) (xC (.int 60))) (xC (.int 5)))) (xCB dInt (xCons (xOp dGe (xCB dAbs (xCons (xVar 2) xNil)) (xOp dPow (xC (.int 10)) (xC (.int 18)))) xNil))
theorem w_own {ns : List Int} {i c : Int} {S : List Dat} {C : Dat → List Dat → Prop} (q : ∀ o : Int, 0 ≤ o → C (.int o) S) : wp (potOwn [some (.scr ns), some (.int i), some (.int c), none]) S C := by
  refine wp_op (wp_op (wp_of (a := .int (if c < 0 then -c else c)) (S' := S) rfl ?_))
  refine wp_op (wp_op (wp_of (a := .int 10) (S' := S) rfl (wp_of (a := .int 60) (S' := S) rfl (wp_of pow60 ?_))))
  refine wp_of (a := .int 5) (S' := S) rfl (wp_of powz ?_)
  have p : (0 : Int) < (10 ^ 60) ^ 5 := by decide +kernel
  generalize ((10 : Int) ^ 60) ^ 5 = T at p ⊢
  refine w_mod p ?_
  refine wp_cb (wp_cons (wp_op (wp_of (a := .int (if c < 0 then -c else c)) (S' := S) rfl ?_)))
  refine wp_op (wp_of (a := .int 10) (S' := S) rfl (wp_of (a := .int 18) (S' := S) rfl (wp_of pow18 ?_)))
  refine wp_of (a := .bl (decide ((10 ^ 18 : Int) ≤ (if c < 0 then -c else c)))) (S' := S) rfl (wp_nil ?_)
  refine wp_of (a := .int (if decide ((10 ^ 18 : Int) ≤ (if c < 0 then -c else c)) then 1 else 0)) (S' := S) rfl ?_
  have a0 : 0 ≤ (if c < 0 then -c else c) % T := Int.emod_nonneg _ (by omega)
  generalize (if c < 0 then -c else c) % T = A at a0 ⊢
  generalize decide ((10 ^ 18 : Int) ≤ (if c < 0 then -c else c)) = b
  cases b with
  | true => exact w_mul (.inr (by decide)) (q _ (Int.mul_nonneg a0 (by decide)))
  | false => exact w_mul (.inr (by decide)) (q _ (Int.mul_nonneg a0 (by decide)))
theorem scr_at {ns : List Int} {i : Nat} {S : List Dat} (h : i < ns.length) : ∃ c, dIxSc (.scr ns) (.int (i : Int)) S = .ok (.int c) S := by
  refine ⟨ns[i], ?_⟩
  have e : atI ns (i : Int) = some ns[i] := by
    unfold atI ixN
    have : (i : Int) < (ns.length : Int) := by omega
    simp [this, h]
  show (M.opt (atI ns (i : Int)) >>= fun n => pure (Dat.int n) : M Dat) S = _
  rw [e]
  rfl
abbrev potMid : Env → M Dat := xOp dMod (xCB dInt (xCons (xOp dAdd (xOp dAdd (xOp dMul (xOp dMod (xCB dInt (xCons (xVar 2) xNil)) (xC (.int 2305843009213693951))) (xC (.int 70981))) (xOp dMul (xOp dMul (xC (.int 5413)) (xVar 1)) (xVar 1))) (xC (.int 37))) xNil)) (xC (.int 2305843009213693921))
theorem w_mid {a0 : Option Dat} {o i c : Int} {S : List Dat} {C : Dat → List Dat → Prop} (ih : -(2 ^ 64) < i ∧ i < 2 ^ 64) (q : ∀ m : Int, 0 ≤ m → m < 2305843009213693921 → C (.int m) S) : wp (potMid [a0, some (.int i), some (.int c), some (.int o)]) S C := by
  refine wp_op (wp_cb (wp_cons (wp_op (wp_op (wp_op (wp_op (wp_of (a := .int c) (S' := S) rfl (wp_of (a := .int 2305843009213693951) (S' := S) rfl ?_))))))))
  refine w_mod (by decide) ?_
  have b0 : 0 ≤ c % 2305843009213693951 := Int.emod_nonneg _ (by decide)
  have b1 : c % 2305843009213693951 < 2305843009213693951 := Int.emod_lt_of_pos _ (by decide)
  generalize c % 2305843009213693951 = r at b0 b1 ⊢
  refine wp_of (a := .int 70981) (S' := S) rfl (w_mul (.inr (by decide)) ?_)
  generalize r * 70981 = w
  show wp (xOp dMul (xOp dMul (xC (.int 5413)) (xVar 1)) (xVar 1) _) S _
  refine wp_op ?_
  refine wp_op ?_
  refine wp_of (a := .int 5413) (S' := S) rfl ?_
  refine wp_of (a := .int i) (S' := S) rfl ?_
  refine w_mul (i := 5413) (j := i) (.inl ⟨by decide, by decide⟩) ?_
  refine wp_of (a := .int i) (S' := S) rfl (w_mul (.inr ih) (w_add ?_))
  refine wp_of (a := .int 37) (S' := S) rfl (w_add (wp_nil (w_int ?_)))
  refine wp_of (a := .int 2305843009213693921) (S' := S) rfl (w_mod (by decide) ?_)
  generalize hm : (w + 5413 * i * i + 37) % 2305843009213693921 = m
  have m0 : 0 ≤ m := hm ▸ Int.emod_nonneg _ (by decide)
  have m1 : m < 2305843009213693921 := hm ▸ Int.emod_lt_of_pos _ (by decide)
  exact q m m0 m1
theorem w_pot {ns : List Int} {i : Nat} {S : List Dat} {C : Dat → List Dat → Prop} (l : S.length = i) (h : i < 3) (q : ∀ S', Pot i 100000 S' → S'.length = i + 1 → C (.loc i) S') : wp (L__law_pot_of [.scr ns, .int (i : Int)]) S C := by
  have ih : -(2 ^ 64) < (i : Int) ∧ (i : Int) < 2 ^ 64 := by omega
  refine wp_run ?_
  have rest : ∀ c : Int, wp ((sSeq (sAsg potOwn (gN 3)) (sRetLo (xLst (xCons (xVar 3) (xCons (xOp dMod (xCB dInt (xCons (xOp dAdd (xOp dAdd (xOp dMul (xOp dMod (xCB dInt (xCons (xVar 2) xNil)) (xC (.int 2305843009213693951))) (xC (.int 70981))) (xOp dMul (xOp dMul (xC (.int 5413)) (xVar 1)) (xVar 1))) (xC (.int 37))) xNil)) (xC (.int 2305843009213693921))) (xCons (xC (.int 0)) xNil))))) ) [some (.scr ns), some (.int (i : Int)), some (.int c), none]) S fun f S' => wp (outF f) S' C := fun c => by
    refine wp_seq (wp_asg (w_own fun o o0 => ⟨_, rfl, ?_⟩))
    refine wp_bind (wp_lst (wp_cons (wp_of (a := .int o) (S' := S) rfl (wp_cons ?_))))
    refine w_mid ih fun m m0 m1 => ?_
    refine wp_cons (wp_of (a := .int 0) (S' := S) rfl (wp_nil ⟨Nat.le_of_ble_eq_true rfl, ?_⟩))
    show wp (outF (.rt (.loc S.length))) (S ++ [.lst [.int o, .int m, .int 0]]) C
    rw [l]
    refine wp_of rfl (q _ ⟨o, m, 0, ?_, o0, m0, m1, by decide, by decide⟩ (by rw [List.length_append, l]; rfl))
    match S, i, l, h with
    | [], _, rfl, _ => exact .inl ⟨rfl, rfl⟩
    | [a], _, rfl, _ => exact .inr (.inl ⟨a, rfl, rfl⟩)
    | [a, b], _, rfl, _ => exact .inr (.inr ⟨a, b, rfl, rfl⟩)
    | a :: b :: c :: r, _, e, h => rw [List.length_cons, List.length_cons, List.length_cons] at e; omega
  by_cases c : i < ns.length
  · obtain ⟨v, hv⟩ := @scr_at ns i S c
    refine wp_seq (wp_asg (wp_xif (wp_of (a := true) (S' := S) ?_ ⟨fun _ => ?_, nofun⟩)))
    · show Out.ok (decide ((i : Int) < (ns.length : Int))) S = _
      rw [decide_eq_true (by omega)]
    · refine wp_op (wp_of (a := .scr ns) (S' := S) rfl (wp_of (a := .int (i : Int)) (S' := S) rfl (wp_of hv ⟨_, rfl, ?_⟩)))
      exact rest v
  · refine wp_seq (wp_asg (wp_xif (wp_of (a := false) (S' := S) ?_ ⟨nofun, fun _ => ?_⟩)))
    · show Out.ok (decide ((i : Int) < (ns.length : Int))) S = _
      rw [decide_eq_false (by omega)]
    · refine wp_op (wp_op (wp_of (a := .int 53) (S' := S) rfl (wp_of (a := .int (i : Int)) (S' := S) rfl (w_mul (.inl (by decide)) ?_))))
      refine wp_of (a := .int 31) (S' := S) rfl (w_add ⟨_, rfl, ?_⟩)
      generalize (53 * (i : Int) + 31) = v
      exact rest v
end Zd

namespace Zd
open PySem PySem.Spec PyProof.Rows L2 Zg
/-! ### what is due and what is heard -/
def dueD (F : Dat → Bool) : Dat → Dat
  | .tup ds => match badL F 0 ds with
    | [] => .tup [.str "told", .bl true]
    | i :: _ => .tup [.str "bad", i]
  | _ => .tup [.str "bad", .non]
theorem badL_int {B : Dat → Bool} : ∀ {ds : List Dat} {n : Nat} {i : Dat}, i ∈ badL B n ds → ∃ k : Nat, i = .int (k : Int) ∧ k < n + ds.length
  | [], _, _, h => nomatch h
  | x :: r, n, i, h => by
    have h : i ∈ (if B x = true then badL B (n + 1) r else .int (n : Int) :: badL B (n + 1) r) := h
    by_cases c : B x = true
    · rw [if_pos c] at h
      obtain ⟨k, e, l⟩ := badL_int h
      exact ⟨k, e, by rw [List.length_cons]; omega⟩
    · rw [if_neg c] at h
      rcases List.mem_cons.mp h with rfl | h
      · exact ⟨n, rfl, by rw [List.length_cons]; omega⟩
      · obtain ⟨k, e, l⟩ := badL_int h
        exact ⟨k, e, by rw [List.length_cons]; omega⟩
theorem due_sw {F : Dat → Bool} {d : Dat} (l : ∀ ds, d = .tup ds → ds.length ≤ 8) : Sw 1 (dueD F d) := by
  have told : strB "told" = true := by decide +kernel
  have bad : strB "bad" = true := by decide +kernel
  have s1 : ∀ s : Str, strB s = true → Sw 0 (.str s) := fun s h => ⟨.str s, rfl, (shw_str h).le (by omega) (Nat.le_refl _), rfl⟩
  have g : ∀ x, lg x → Sw 0 x := fun x h => (lg_s h).1
  have two : ∀ s : Str, ∀ x : Dat, strB s = true → Sw 0 x → Sw 1 (.tup [.str s, x]) := fun s x h k => sw_tup (Nat.le_of_ble_eq_true rfl) fun y m => by
    rcases List.mem_cons.mp m with rfl | m
    · exact s1 s h
    · rcases List.mem_cons.mp m with rfl | m
      · exact k
      · cases m
  unfold dueD
  split
  · rename_i ds
    split
    · exact two _ _ told (g _ (.inr (.inr ⟨_, rfl⟩)))
    · rename_i i r e
      obtain ⟨k, rfl, lk⟩ := badL_int (B := F) (ds := ds) (n := 0) (i := i) (by rw [e]; exact List.mem_cons_self)
      have := l ds rfl
      exact two _ _ bad (g _ (.inl (.inr ⟨_, rfl, by omega, by omega⟩)))
  · exact two _ _ bad (g _ (.inr (.inl rfl)))
theorem bt_kind {n : Nat} {d : Dat} (h : Bt n d) : kind1 d = true := by
  have lk : ∀ d, lg d → kind1 d = true := fun d h => by rcases h with (⟨s, rfl, _⟩ | ⟨i, rfl, _⟩) | rfl | ⟨b, rfl⟩ <;> rfl
  cases h with
  | ok h =>
    cases n with
    | zero => exact lk d h
    | succ n =>
      rcases h with h | ⟨ds, e, _⟩
      · exact lk d h
      · rcases e with rfl | rfl <;> rfl
  | dic => rfl
  | mid _ _ _ _ => rfl
theorem bt_mem {n : Nat} {ds : List Dat} (h : Bt n (.tup ds)) : ∀ x ∈ ds, ∃ m, m ≤ n ∧ Bt m x := by
  generalize e : Dat.tup ds = d at h
  cases h with
  | @ok n d h =>
    subst e
    cases n with
    | zero => rcases h with (⟨s, e, _⟩ | ⟨i, e, _⟩) | e | ⟨b, e⟩ <;> cases e
    | succ n =>
      rcases h with (((⟨s, e, _⟩ | ⟨i, e, _⟩) | e | ⟨b, e⟩)) | ⟨es, e, l, h⟩
      · cases e
      · cases e
      · cases e
      · cases e
      · rcases e with e | e
        · cases e
          exact fun x m => ⟨n, by omega, .ok (h x m)⟩
        · cases e
  | dic => cases e
  | @mid n pre post x hp hx hq l =>
    cases e
    intro y m
    rcases List.mem_append.mp m with m | m
    · exact ⟨n, by omega, .ok (hp y m).gd⟩
    · rcases List.mem_cons.mp m with rfl | m
      · exact ⟨n, by omega, hx⟩
      · exact ⟨n, by omega, .ok (hq y m).gd⟩
def FB (b : Bool) : Dat → Bool := if b then stepB else evtF
/-- what the law hears -/
theorem heard_of {b : Bool} {n : Nat} {d : Dat} (h : Bt n d) (hn : n ≤ 4) (ht : ∀ ds, d = .tup ds → ∀ x ∈ ds, ∀ S, L__law_is_cell_twice [x] S = .ok (.bl false) S) (S : List Dat) : L__law_heard [.bl b, d] S = .ok (dueD (FB b) d) S := by
  have e : L__law_heard [.bl b, d] S = heardD ((if b then L_show_plan [d] else L_show_run [d]) S) b := rfl
  rw [e]
  by_cases t : isTup d = true
  · cases d with
    | tup ds =>
      have l8 := h.mem.1
      cases b with
      | true =>
        have k := k_show (c := "BadPlan") (T := L_is_step_form) (R := L_row_of_step) (B := stepB) (ds := ds) (S := S)
          (fun x m S => by obtain ⟨j, _, bx⟩ := bt_mem h x m; exact k_isstep bx.gv.1 S)
          (fun x m t => by obtain ⟨j, _, bx⟩ := bt_mem h x m; obtain ⟨z, l, k⟩ := k_rowstep bx.gv.1 bx.gv.2 t; exact ⟨z, by omega, k⟩) (by omega)
        show heardD (L_show_plan [.tup ds] S) true = .ok (match badL stepB 0 ds with | [] => .tup [.str "told", .bl true] | i :: _ => .tup [.str "bad", i]) S
        rw [show_plan_is]
        cases c : badL stepB 0 ds with
        | nil =>
          obtain ⟨z, k⟩ := k.1 c
          rw [k]
          rfl
        | cons i r =>
          rw [k.2 i r c]
          rfl
      | false =>
        have k := k_show (c := "BadRun") (T := L_is_event_form) (R := L_row_of_event) (B := evtF) (ds := ds) (S := S)
          (fun x m S => by obtain ⟨j, lj, bx⟩ := bt_mem h x m; exact k_isevent bx.gw.1 (bx.eqOk (by omega)) (ht ds rfl x m) S)
          (fun x m t => by obtain ⟨j, _, bx⟩ := bt_mem h x m; obtain ⟨z, l, k⟩ := k_rowevent bx.gw.1 bx.gw.2 t; exact ⟨z, by omega, k⟩) (by omega)
        show heardD (L_show_run [.tup ds] S) false = .ok (match badL evtF 0 ds with | [] => .tup [.str "told", .bl true] | i :: _ => .tup [.str "bad", i]) S
        rw [show_run_is]
        cases c : badL evtF 0 ds with
        | nil =>
          obtain ⟨z, k⟩ := k.1 c
          rw [k]
          rfl
        | cons i r =>
          rw [k.2 i r c]
          rfl
    | _ => cases t
  · have t : isTup d = false := (Bool.not_eq_true _).mp t
    have ed : dueD (FB b) d = .tup [.str "bad", .non] := by cases d <;> first | rfl | cases t
    rw [ed]
    cases b with
    | true =>
      show heardD (L_show_plan [d] S) true = _
      rw [show_plan_is, k_shownot (bt_kind h) t]
      rfl
    | false =>
      show heardD (L_show_run [d] S) false = _
      rw [show_run_is, k_shownot (bt_kind h) t]
      rfl
end Zd

namespace Zd
open PySem PySem.Spec PyProof.Rows L2 Zg
abbrev valEnd : Env → M Flow := (sSeq (sAsg (xCB dRepr2 (xCons (xVar 3) xNil)) (gN 6))
    (sIf (bOr (bTest (xOp dNe (xCB dRepr2 (xCons (xCall L__law_heard (xCons (xVar 1) (xCons (xVar 3) xNil))) xNil)) (xCB dRepr2 (xCons (xVar 4) xNil)))) (bTest (xOp dNe (xCB dRepr2 (xCons (xVar 3) xNil)) (xVar 6)))) (sRet (xC (.bl false))) sNx))
abbrev badE : Env → M Bool := bNot (bIf (bTest (xVar 1)) (bTest (xCall L__law_is_step0 (xCons (xVar 8) xNil))) (bTest (xCall L__law_is_event (xCons (xVar 8) xNil))))
abbrev badG : Env → Dat → Option Env := gT 2 (gCo (gN 9) (gCo (gN 8) gNl))
abbrev valB : Env → M Flow := (sSeq (sAsg (xTup (xCons (xC (.str "told")) (xCons (xC (.bl true)) xNil))) (gN 4))
    (sSeq (sIf (bTest (xCB dIsi (xCons (xVar 3) (xCons (xC (.ty "tuple")) xNil)))) (sSeq (sIf (bTest (xCB dAny (xCons (xLc (iTp (xVar 3)) (gN 8) bYes (xCall L__law_is_cell_twice (xCons (xVar 8) xNil)) [8]) xNil))) (sRet (xC (.bl true))) sNx)
    (sSeq (sAsg (xLc (iEnM (xCons (xVar 3) xNil)) badG badE (xVar 9) [9, 8]) (gN 5))
    (sAsg (xIf (bTest (xOp (dEqD true) (xVar 5) (xLst xNil))) (xTup (xCons (xC (.str "bad")) (xCons (xOp dIxL (xVar 5) (xC (.int 0))) xNil))) (xVar 4)) (gN 4)))) (sAsg (xTup (xCons (xC (.str "bad")) (xCons (xC .non) xNil))) (gN 4)))
    valEnd))
theorem calm_ok {m : M Dat} {S S' : List Dat} {d : Dat} (h : m S = .ok d S') : calm m S = .ok d S' := by
  unfold calm
  rw [h]
theorem ne_same {z : Str} (S : List Dat) : dNe (.str z) (.str z) S = .ok (.bl false) S := by
  show (M.need (scal (V.str z) (V.str z)) >>= fun _ => pure (Dat.bl (!decide (V.str z = V.str z))) : M Dat) S = _
  rw [decide_eq_true rfl]
  rfl
theorem end_ok {ℓ : Nat} {b : Bool} {n : Nat} {d : Dat} {T v6 : Option Dat} {u5 u7 u8 u9 : Option Dat} {S : List Dat} {C : Flow → List Dat → Prop} (h : Bt n d) (hn : n ≤ 4) (ht : ∀ ds, d = .tup ds → ∀ x ∈ ds, ∀ S, L__law_is_cell_twice [x] S = .ok (.bl false) S)
    (q : ∀ v6, C (.nx [some (.loc ℓ), some (.bl b), T, some d, some (dueD (FB b) d), u5, v6, u7, u8, u9]) S) : wp (valEnd [some (.loc ℓ), some (.bl b), T, some d, some (dueD (FB b) d), u5, v6, u7, u8, u9]) S C := by
  obtain ⟨z, hz⟩ := repr_ok h hn
  obtain ⟨y, hy⟩ := repr_sw (due_sw (F := FB b) (d := d) fun ds e => by subst e; exact h.mem.1) (by decide)
  refine wp_seq (wp_asg (wp_cb (wp_cons (wp_of (a := d) (S' := S) rfl (wp_nil (wp_of (hz S) ⟨_, rfl, ?_⟩))))))
  refine wp_if (wp_or (wp_test (wp_op (wp_cb (wp_cons ?_)))))
  refine wp_call (wp_cons (wp_of (a := .bl b) (S' := S) rfl (wp_cons (wp_of (a := d) (S' := S) rfl (wp_nil (wp_of (heard_of h hn ht S) ?_))))))
  refine wp_nil (wp_of (hy S) ?_)
  refine wp_cb (wp_cons (wp_of (a := dueD (FB b) d) (S' := S) rfl (wp_nil (wp_of (hy S) (wp_of (ne_same S) ⟨_, rfl, nofun, fun _ => ?_⟩)))))
  refine wp_test (wp_op (wp_cb (wp_cons (wp_of (a := d) (S' := S) rfl (wp_nil (wp_of (hz S) (wp_of (a := .str z) (S' := S) rfl (wp_of (ne_same S) ⟨_, rfl, nofun, fun _ => ?_⟩))))))))
  exact wp_of rfl (q _)
theorem comp_bad {t : Env → M Bool} {B : Dat → Bool} {e0 e1 e2 e3 e4 e5 e6 e7 : Option Dat} {S : List Dat} : ∀ (ds : List Dat) (n : Nat), (∀ x ∈ ds, ∀ i, t [e0, e1, e2, e3, e4, e5, e6, e7, some x, some i] S = .ok (!B x) S) → compD badG t (xVar 9) [e0, e1, e2, e3, e4, e5, e6, e7, none, none] (enF n ds) S = .ok (badL B n ds) S
  | [], n, _ => rfl
  | x :: ds, n, h => by
    have ih := comp_bad (B := B) ds (n + 1) fun y m => h y (List.mem_cons_of_mem _ m)
    have hx := h x List.mem_cons_self (.int (n : Int))
    have e : compD badG t (xVar 9) [e0, e1, e2, e3, e4, e5, e6, e7, none, none] (enF n (x :: ds)) S = (t [e0, e1, e2, e3, e4, e5, e6, e7, some x, some (.int (n : Int))] >>= fun b => if b = true then xVar 9 [e0, e1, e2, e3, e4, e5, e6, e7, some x, some (.int (n : Int))] >>= fun x => compD badG t (xVar 9) [e0, e1, e2, e3, e4, e5, e6, e7, none, none] (enF (n + 1) ds) >>= fun xs => pure (x :: xs) else compD badG t (xVar 9) [e0, e1, e2, e3, e4, e5, e6, e7, none, none] (enF (n + 1) ds) : M (List Dat)) S := rfl
    rw [e, ok_bind hx]
    cases c : B x with
    | true =>
      have bl : badL B n (x :: ds) = badL B (n + 1) ds := by
        show (if B x = true then _ else _) = _
        rw [if_pos c]
      rw [bl]
      exact ih
    | false =>
      have bl : badL B n (x :: ds) = .int (n : Int) :: badL B (n + 1) ds := by
        show (if B x = true then _ else _) = _
        rw [if_neg (by rw [c]; exact nofun)]
      rw [bl]
      show ((compD badG t (xVar 9) [e0, e1, e2, e3, e4, e5, e6, e7, none, none] (enF (n + 1) ds) >>= fun xs => pure (Dat.int (n : Int) :: xs)) : M (List Dat)) S = _
      rw [ok_bind ih]
      rfl
theorem ne_nil {ds : List Dat} {B : Dat → Bool} {n : Nat} (l : ds.length ≤ 8) (S : List Dat) : dEqD true (.lst (badL B n ds)) (.lst []) S = .ok (.bl (!(badL B n ds).isEmpty)) S := by
  have hb : ∀ x ∈ badL B n ds, ∃ k : Nat, x = .int (k : Int) := fun x m => by obtain ⟨k, e, _⟩ := badL_int m; exact ⟨k, e⟩
  generalize badL B n ds = L at hb ⊢
  have py : ∀ L : List Dat, (∀ x ∈ L, ∃ k : Nat, x = .int (k : Int)) → ∃ ys, toPys L = some ys ∧ PyData.canLayAll0 ys = true ∧ PyData.depthAll ys = 0 ∧ ys.isEmpty = L.isEmpty := fun L => by
    induction L with
    | nil => exact fun _ => ⟨[], rfl, rfl, rfl, rfl⟩
    | cons x r ih =>
      intro h
      obtain ⟨k, rfl⟩ := h x List.mem_cons_self
      obtain ⟨ys, e, c, dp, _⟩ := ih fun x m => h x (List.mem_cons_of_mem _ m)
      refine ⟨.int k :: ys, ?_, ?_, ?_, rfl⟩
      · rw [toPys, e]; rfl
      · simp only [PyData.canLayAll0, PyData.canLay0, c, Bool.and_self]
      · simp only [PyData.depthAll, PyData.depth, dp]; rfl
  obtain ⟨ys, e, c, dp, em⟩ := py L hb
  have e1 : toPy (.lst L) = some (.list ys) := by rw [toPy, e]; rfl
  have sh : shp (.list ys) = true := by
    unfold shp SeqAt.shaped
    rw [Bool.and_eq_true, decide_eq_true_eq]
    exact ⟨by simp only [PyData.canLay0]; exact c, by simp only [PyData.depth, dp]; decide⟩
  have sh0 : shp (.list []) = true := by decide +kernel
  unfold dEqD
  rw [e1]
  show (M.need (shp (.list ys) && shp (.list [])) >>= fun _ => pure (Dat.bl (true != PyData.eqv (.list ys) (.list []))) : M Dat) S = _
  rw [sh, sh0]
  show Out.ok (Dat.bl (true != PyData.eqv (.list ys) (.list []))) S = _
  rw [← em]
  cases ys with
  | nil => simp only [PyData.eqv, PyData.eqvAll]; rfl
  | cons y r => simp only [PyData.eqv, PyData.eqvAll]; rfl
def twQ (x : Dat) : Bool := match L__law_is_cell_twice [x] [] with
  | .ok (.bl b) _ => b
  | _ => false
theorem wp_lcT {S : List Dat} {ρ : Env} {it : Env → M (List Dat)} {g : Env → Dat → Option Env} {c : Env → M Bool} {e : Env → M Dat} {vs : List Nat} {C : Dat → List Dat → Prop} (h : wp (it ρ) S fun ds S1 => ds.length ≤ 100000 ∧ wp (compD g c e (wipeE ρ vs) ds) S1 fun xs S2 => C (.lst xs) S2) : wp (xLc it g c e vs ρ) S C :=
  wp_bind (wp_mono h fun ds S1 ⟨k1, k2⟩ => wp_need (decide_eq_true k1) (wp_bind k2))
theorem turn_ok {ℓ : Nat} {b : Bool} {n : Nat} {d : Dat} {T u4 u5 u6 u7 u8 u9 : Option Dat} {S : List Dat} {C : Flow → List Dat → Prop} (h : Bt n d) (hn : n ≤ 4) (q1 : C (.rt (.bl true)) S)
    (q2 : ∀ v4 v5 v6 v8 v9, C (.nx [some (.loc ℓ), some (.bl b), T, some d, v4, v5, v6, u7, v8, v9]) S) : wp (valB [some (.loc ℓ), some (.bl b), T, some d, u4, u5, u6, u7, u8, u9]) S C := by
  refine wp_seq (wp_asg (wp_tup (wp_cons (wp_of (a := .str "told") (S' := S) rfl (wp_cons (wp_of (a := .bl true) (S' := S) rfl (wp_nil ⟨Nat.le_of_ble_eq_true rfl, _, rfl, ?_⟩)))))))
  by_cases t : isTup d = true
  · cases d with
    | tup ds =>
      have l8 := h.mem.1
      have tw : ∀ x ∈ ds, ∀ S, L__law_is_cell_twice [x] S = .ok (.bl (twQ x)) S := fun x m S => by
        obtain ⟨j, lj, bx⟩ := bt_mem h x m
        obtain ⟨c, k, _⟩ := k_twice bx.gv.1 (bx.eqOk (by omega))
        have : twQ x = c := by unfold twQ; rw [k []]
        rw [this]
        exact k S
      refine wp_seq (wp_if (wp_of (a := true) (S' := S) rfl ⟨fun _ => ?_, nofun⟩))
      refine wp_seq (wp_if (wp_test (wp_cb (wp_cons (wp_lc (wp_of (a := ds) (S' := S) rfl ⟨by omega, wp_of (comp_map (f := fun d => .bl (twQ d)) fun x m => ?_) (wp_nil ?_)⟩))))))
      · exact calm_ok (tw x m S)
      have e : (ds.map fun d => Dat.bl (twQ d)) = (ds.map twQ).map .bl := by rw [List.map_map]; rfl
      rw [e]
      refine wp_of any_of ⟨_, rfl, fun _ => wp_of rfl q1, fun an => wp_of rfl ?_⟩
      have ht : ∀ x ∈ ds, ∀ S, L__law_is_cell_twice [x] S = .ok (.bl false) S := fun x m S => by
        have c : twQ x = false := by
          have := (List.any_eq_false.mp an) (twQ x) (List.mem_map.mpr ⟨x, m, rfl⟩)
          cases z : twQ x with
          | false => rfl
          | true => rw [z] at this; exact absurd rfl this
        rw [tw x m S, c]
      refine wp_seq (wp_asg (wp_lcT (wp_of (a := enF 0 ds) (S' := S) ?_ ⟨?_, ?_⟩)))
      · show (pure (enumD ds) : M (List Dat)) S = _
        rw [enumD_F]
        rfl
      · have : (enF 0 ds).length = ds.length := by
          have : ∀ (ds : List Dat) (n : Nat), (enF n ds).length = ds.length := fun ds => by
            induction ds with
            | nil => exact fun _ => rfl
            | cons x r ih => exact fun n => by show (enF (n + 1) r).length + 1 = _; rw [ih]; rfl
          exact this ds 0
        omega
      refine wp_of (comp_bad (B := FB b) ds 0 fun x m i => ?_) ⟨_, rfl, ?_⟩
      · obtain ⟨j, lj, bx⟩ := bt_mem h x m
        cases b with
        | true =>
          refine eqw (wp_not (wp_of (a := FB true x) (S' := S) ?_ ⟨rfl, rfl⟩))
          refine eqw (wp_bind (wp_of (a := true) (S' := S) rfl ?_))
          exact wp_test (wp_call (wp_cons (wp_of (a := x) (S' := S) rfl (wp_nil (wp_of (k_lawstep bx.gv.1 S) ⟨_, rfl, rfl, rfl⟩)))))
        | false =>
          refine eqw (wp_not (wp_of (a := FB false x) (S' := S) ?_ ⟨rfl, rfl⟩))
          refine eqw (wp_bind (wp_of (a := false) (S' := S) rfl ?_))
          exact wp_test (wp_call (wp_cons (wp_of (a := x) (S' := S) rfl (wp_nil (wp_of (k_lawevent bx.gw.1 S) ⟨_, rfl, rfl, rfl⟩)))))
      refine wp_asg (wp_xif (wp_test (wp_op (wp_of (a := .lst (badL (FB b) 0 ds)) (S' := S) rfl (wp_of (a := .lst []) (S' := S) rfl (wp_of (ne_nil l8 S) ⟨_, rfl, fun c => ?_, fun c => ?_⟩))))))
      · cases e : badL (FB b) 0 ds with
        | nil => rw [e] at c; cases c
        | cons i r =>
          refine wp_tup (wp_cons (wp_of (a := .str "bad") (S' := S) rfl (wp_cons (wp_op (wp_of (a := .lst (i :: r)) (S' := S) rfl (wp_of (a := .int 0) (S' := S) rfl (wp_of (a := i) (S' := S) ?_ (wp_nil ⟨Nat.le_of_ble_eq_true rfl, _, rfl, ?_⟩))))))))
          · exact ix0 (x := i) (r := r) S
          · have ed : Dat.tup [.str "bad", i] = dueD (FB b) (.tup ds) := by show _ = (match badL (FB b) 0 ds with | [] => Dat.tup [.str "told", .bl true] | i :: _ => Dat.tup [.str "bad", i]); rw [e]
            rw [ed]
            exact end_ok h hn (fun es e => by cases e; exact ht) fun v6 => q2 _ _ _ _ _
      · have e : badL (FB b) 0 ds = [] := by
          cases e : badL (FB b) 0 ds with
          | nil => rfl
          | cons i r => rw [e] at c; cases c
        refine wp_of (a := .tup [.str "told", .bl true]) (S' := S) rfl ⟨_, rfl, ?_⟩
        have ed : Dat.tup [.str "told", .bl true] = dueD (FB b) (.tup ds) := by show _ = (match badL (FB b) 0 ds with | [] => Dat.tup [.str "told", .bl true] | i :: _ => Dat.tup [.str "bad", i]); rw [e]
        rw [ed]
        exact end_ok h hn (fun es e => by cases e; exact ht) fun v6 => q2 _ _ _ _ _
    | _ => cases t
  · have t : isTup d = false := (Bool.not_eq_true _).mp t
    have ed : dueD (FB b) d = .tup [.str "bad", .non] := by cases d <;> first | rfl | (cases t; done)
    refine wp_seq (wp_if (wp_test (wp_of (a := .bl false) (S' := S) ?_ ⟨_, rfl, nofun, fun _ => ?_⟩)))
    · have k := bt_kind h
      cases d <;> first | rfl | (cases t; done) | (cases k; done)
    · refine wp_asg (wp_tup (wp_cons (wp_of (a := .str "bad") (S' := S) rfl (wp_cons (wp_of (a := .non) (S' := S) rfl (wp_nil ⟨Nat.le_of_ble_eq_true rfl, _, rfl, ?_⟩))))))
      rw [← ed]
      exact end_ok h hn (fun es e => by subst e; cases t) fun v6 => q2 _ _ _ _ _
end Zd

namespace Zd
open PySem PySem.Spec PyProof.Rows L2 Zg
theorem intsD_len {lo : Int} {n : Nat} : (intsD lo n).length = n := by unfold intsD; rw [List.length_map, List.length_range]
theorem right_is : L__law_right = runD 10 (sSeq (sAsg (xOp dEq (xCall L__law_take (xCons (xVar 0) (xCons (xC (.int 2)) xNil))) (xC (.int 0))) (gN 1))
    (sSeq (sAsg (xCB dTuple (xCons (xLc (iRg1 (xCons (xOp dAdd (xC (.int 1)) (xCall L__law_take (xCons (xVar 0) (xCons (xC (.int 5)) xNil)))) xNil)) (gN 7) bYes (xIf (bTest (xVar 1)) (xCall L__law_step (xCons (xVar 0) xNil)) (xCall L__law_event (xCons (xVar 0) xNil))) [7]) xNil)) (gN 2))
    (sSeq (sFor (iTp (xTup (xCons (xVar 2) (xCons (xCall L__law_bent4 (xCons (xVar 0) (xCons (xVar 2) (xCons (xOp dAdd (xC (.int 1)) (xCall L__law_take (xCons (xVar 0) (xCons (xC (.int 4)) xNil)))) xNil)))) (xCons (xCall L__law_bent4 (xCons (xVar 0) (xCons (xVar 2) (xCons (xC (.int 2)) xNil)))) xNil))))) (gN 3) valB)
    (sRet (xC (.bl true)))))) := rfl
theorem w_right {ℓ k : Nat} {S : List Dat} {C : Dat → List Dat → Prop} (h : Pot ℓ (k + 200) S) (q : ∀ S', Pot ℓ k S' → C (.bl true) S') : wp (L__law_right [.loc ℓ]) S C := by
  rw [right_is]
  refine wp_run (wp_seq (wp_asg (wp_op (wp_call (wp_cons (wp_of (a := .loc ℓ) (S' := S) rfl (wp_cons (wp_of (a := .int 2) (S' := S) rfl (wp_nil ?_)))))))))
  refine w_take (k := k + 199) h (by decide) (by decide) fun r S1 r0 r2 h1 => ?_
  refine wp_of (a := .int 0) (S' := S1) rfl (wp_of dEq_int ⟨_, rfl, ?_⟩)
  generalize (r == 0) = b
  show wp (sSeq _ _ [some (.loc ℓ), some (.bl b), none, none, none, none, none, none, none, none]) S1 _
  refine wp_seq (wp_asg (wp_cb (wp_cons (wp_lc (wp_bind (wp_cons (wp_op (wp_of (a := .int 1) (S' := S1) rfl (wp_call (wp_cons (wp_of (a := .loc ℓ) (S' := S1) rfl (wp_cons (wp_of (a := .int 5) (S' := S1) rfl (wp_nil ?_)))))))))))))) 
  refine w_take (k := k + 198) h1 (by decide) (by decide) fun r2 S2 a0 a5 h2 => w_add (wp_nil (wp_need (decide_eq_true (by omega)) ⟨by rw [intsD_len]; omega, ?_⟩))
  refine wp_comp (I := fun left acc S => acc.length + left.length ≤ 5 ∧ (∀ x ∈ acc, Od 2 x) ∧ Pot ℓ (k + 30 + 21 * left.length) S) (fun d left acc S ⟨l, a, hp⟩ => ⟨_, rfl, ?_⟩) _ [] S2 _ ⟨by rw [intsD_len, List.length_nil]; omega, nofun, h2.le (by rw [intsD_len]; omega)⟩ fun xs S3 ⟨l3, a3, hp3⟩ => ?_
  · have hp : Pot ℓ (k + 30 + 21 * left.length + 21) S := hp.le (by rw [List.length_cons]; omega)
    have put : ∀ x S', Od 2 x → Pot ℓ (k + 30 + 21 * left.length) S' → (acc ++ [x]).length + left.length ≤ 5 ∧ (∀ y ∈ acc ++ [x], Od 2 y) ∧ Pot ℓ (k + 30 + 21 * left.length) S' := fun x S' o hp' => by
      refine ⟨by rw [List.length_append]; rw [List.length_cons] at l; show acc.length + 1 + _ ≤ 5; omega, fun y m => ?_, hp'⟩
      rcases List.mem_append.mp m with m | m
      · exact a y m
      · rw [List.mem_singleton.mp m]; exact o
    refine wp_xif (wp_test (wp_of (a := .bl b) (S' := S) rfl ⟨_, rfl, fun _ => ?_, fun _ => ?_⟩))
    · refine wp_call (wp_cons (wp_of (a := .loc ℓ) (S' := S) rfl (wp_nil ?_)))
      refine w_step (k := k + 30 + 21 * left.length) (hp.le (by omega)) fun x S' o hp' => ?_
      exact put x S' (step_od o).up hp'
    · refine wp_call (wp_cons (wp_of (a := .loc ℓ) (S' := S) rfl (wp_nil ?_)))
      refine w_event (k := k + 30 + 21 * left.length) hp fun x S' o hp' => ?_
      exact put x S' (ev_od o) hp'
  rw [List.nil_append] at l3 a3
  have l3 : xs.length ≤ 5 := l3
  have hp3 : Pot ℓ (k + 30) S3 := hp3.le (Nat.le_refl _)
  refine wp_nil (wp_of (a := .tup xs) (S' := S3) rfl ⟨_, rfl, ?_⟩)
  have od : Od 3 (.tup xs) := .inr ⟨xs, rfl, by omega, a3⟩
  have od4 : Bt 4 (.tup xs) := .ok od.gd.up
  show wp (sSeq _ _ [some (.loc ℓ), some (.bl b), some (.tup xs), none, none, none, none, none, none, none]) S3 _
  refine wp_seq (wp_bind (wp_bind (wp_tup (wp_cons (wp_of (a := .tup xs) (S' := S3) rfl (wp_cons (wp_call (wp_cons (wp_of (a := .loc ℓ) (S' := S3) rfl (wp_cons (wp_of (a := .tup xs) (S' := S3) rfl (wp_cons ?_))))))))))))
  refine wp_op (wp_of (a := .int 1) (S' := S3) rfl (wp_call (wp_cons (wp_of (a := .loc ℓ) (S' := S3) rfl (wp_cons (wp_of (a := .int 4) (S' := S3) rfl (wp_nil ?_)))))))
  refine w_take (k := k + 29) hp3 (by decide) (by decide) fun r4 S4 b0 b4 h4 => w_add (wp_nil ?_)
  obtain ⟨e, re⟩ : ∃ e : Nat, 1 + r4 = (e : Int) := ⟨(1 + r4).toNat, by omega⟩
  rw [re]
  refine bent_ok4 ℓ (k + 15) 3 e S4 (.tup xs) _ (by omega) (h4.le (by omega)) od fun x2 S5 o2 h5 => ?_
  refine wp_cons (wp_call (wp_cons (wp_of (a := .loc ℓ) (S' := S5) rfl (wp_cons (wp_of (a := .tup xs) (S' := S5) rfl (wp_cons (wp_of (a := .int 2) (S' := S5) rfl (wp_nil ?_))))))))
  refine bent_ok4 ℓ k 3 2 S5 (.tup xs) _ (by decide) (h5.le (by omega)) od fun x3 S6 o3 h6 => ?_
  refine wp_nil ⟨Nat.le_of_ble_eq_true rfl, ?_⟩
  show wp (forD (gN 3) valB [.tup xs, x2, x3] [some (.loc ℓ), some (.bl b), some (.tup xs), none, none, none, none, none, none, none]) S6 _
  refine wp_for (I := fun left ρ S => S = S6 ∧ (∀ d ∈ left, Bt 4 d) ∧ ∃ T u3 u4 u5 u6 u7 u8 u9, ρ = [some (.loc ℓ), some (.bl b), T, u3, u4, u5, u6, u7, u8, u9]) (fun d left ρ S ⟨eS, hl, T, u3, u4, u5, u6, u7, u8, u9, eρ⟩ => ?_) (fun ρ S ⟨eS, _⟩ => ?_) _ _ _ ⟨rfl, ?_, _, _, _, _, _, _, _, _, rfl⟩
  · subst eS eρ
    refine ⟨_, rfl, turn_ok (hl d List.mem_cons_self) (Nat.le_refl _) ?_ fun v4 v5 v6 v8 v9 => ?_⟩
    · exact wp_of rfl (q _ h6)
    · exact ⟨rfl, fun d m => hl d (List.mem_cons_of_mem _ m), _, _, _, _, _, _, _, _, rfl⟩
  · intro d m
    rcases List.mem_cons.mp m with rfl | m
    · exact od4
    · rcases List.mem_cons.mp m with rfl | m
      · exact o2
      · rcases List.mem_cons.mp m with rfl | m
        · exact o3
        · cases m
  · rename_i eS _
    subst eS
    exact wp_of rfl (wp_of rfl (q _ h6))
theorem Pot.len {i k : Nat} {S : List Dat} (h : Pot i k S) : S.length = i + 1 := by
  obtain ⟨o, m, n, h, _⟩ := h
  rcases h with ⟨rfl, rfl⟩ | ⟨a, rfl, rfl⟩ | ⟨a, b, rfl, rfl⟩ <;> rfl
theorem law_is : L_law = runD 4 (sSeq (sFor (iRg1 (xCons (xCB dMax (xCons (xC (.int 1)) (xCons (xCB dMin (xCons (xC (.int 3)) (xCons (xCB dLen (xCons (xVar 0) xNil)) xNil))) xNil))) xNil)) (gN 1) (sSeq (sAsg (xCall L__law_pot_of (xCons (xVar 0) (xCons (xVar 1) xNil))) (gN 2))
    (sIf (bNot (bTest (xCB dAll (xCons (xLc (iRg1 (xCons (xC (.int 10)) xNil)) (gN 3) bYes (xCall L__law_right (xCons (xVar 2) xNil)) [3]) xNil)))) (sRet (xC (.bl false))) sNx)))
    (sRet (xC (.bl true)))) := rfl
theorem law_true (ns : List Int) (few : ns.length ≤ 63) : ∃ S', L_law [.scr ns] [] = .ok (.bl true) S' := by
  have w : wp (L_law [.scr ns]) [] fun d _ => d = .bl true := by
    rw [law_is]
    obtain ⟨t, et, t3⟩ : ∃ t : Nat, (iRg1 (xCons (xCB dMax (xCons (xC (.int 1)) (xCons (xCB dMin (xCons (xC (.int 3)) (xCons (xCB dLen (xCons (xVar 0) xNil)) xNil))) xNil))) xNil) [some (.scr ns), none, none, none]) [] = .ok (intsD 0 t) [] ∧ t ≤ 3 := by
      generalize hj : (if (if ((ns.length : Nat) : Int) < 3 then ((ns.length : Nat) : Int) else 3) > 1 then (if ((ns.length : Nat) : Int) < 3 then ((ns.length : Nat) : Int) else 3) else 1) = j
      have j3 : 0 ≤ j ∧ j ≤ 3 := by subst hj; split <;> (try split) <;> omega
      refine ⟨j.toNat, ?_, by omega⟩
      have e : (iRg1 (xCons (xCB dMax (xCons (xC (.int 1)) (xCons (xCB dMin (xCons (xC (.int 3)) (xCons (xCB dLen (xCons (xVar 0) xNil)) xNil))) xNil))) xNil) [some (.scr ns), none, none, none]) [] = (M.need (decide (-(2 ^ 62) ≤ j ∧ j < 2 ^ 62)) >>= fun _ => pure (intsD 0 j.toNat) : M (List Dat)) [] := by rw [← hj]; rfl
      rw [e, decide_eq_true (by omega)]
      rfl
    refine wp_run (wp_seq (wp_bind (wp_of et ?_)))
    refine wp_for (I := fun left ρ S => S.length + left.length = t ∧ left = (intsD 0 t).drop S.length ∧ ∃ u1 u2 u3, ρ = [some (.scr ns), u1, u2, u3]) (fun d left ρ S ⟨l, el, u1, u2, u3, eρ⟩ => ?_) (fun ρ S _ => ?_) _ _ _ ⟨by rw [intsD_len]; exact Nat.zero_add t, rfl, _, _, _, rfl⟩
    · subst eρ
      rw [List.length_cons] at l
      have lt : S.length < (intsD 0 t).length := by rw [intsD_len]; omega
      have hd : d = .int (S.length : Int) ∧ left = (intsD 0 t).drop (S.length + 1) := by
        rw [List.drop_eq_getElem_cons lt] at el
        injection el with e1 e2
        refine ⟨?_, e2⟩
        rw [e1]
        simp [intsD]
      obtain ⟨rfl, hl⟩ := hd
      refine ⟨_, rfl, ?_⟩
      refine wp_seq (wp_asg (wp_call (wp_cons (wp_of (a := .scr ns) (S' := S) rfl (wp_cons (wp_of (a := .int (S.length : Int)) (S' := S) rfl (wp_nil ?_)))))))
      refine w_pot (i := S.length) rfl (by omega) fun S1 hp l1 => ⟨_, rfl, ?_⟩
      refine wp_if (wp_not (wp_test (wp_cb (wp_cons (wp_lc (wp_of (a := intsD 0 10) (S' := S1) rfl ⟨by rw [intsD_len]; decide, ?_⟩))))))
      refine wp_comp (I := fun left acc S2 => (∀ x ∈ acc, x = .bl true) ∧ Pot S.length (200 * left.length) S2) (fun d left acc S2 ⟨a, hp⟩ => ⟨_, rfl, ?_⟩) _ [] S1 _ ⟨nofun, hp.le (by rw [intsD_len]; decide)⟩ fun xs S3 ⟨a3, hp3⟩ => ?_
      · refine wp_call (wp_cons (wp_of (a := .loc S.length) (S' := S2) rfl (wp_nil ?_)))
        refine w_right (k := 200 * left.length) (hp.le (by rw [List.length_cons]; omega)) fun S' hp' => ⟨fun x m => ?_, hp'⟩
        rcases List.mem_append.mp m with m | m
        · exact a x m
        · exact List.mem_singleton.mp m
      · rw [List.nil_append] at a3
        have ex : xs = (xs.map fun _ => true).map .bl := by
          rw [List.map_map]
          refine (List.map_id xs).symm.trans ?_
          exact List.map_congr_left fun x m => a3 x m
        rw [ex]
        refine wp_nil (wp_of all_of ⟨_, rfl, ?_⟩)
        have : ((xs.map fun _ => true).all id) = true := by rw [List.all_map, List.all_eq_true]; exact fun _ _ => rfl
        rw [this]
        refine ⟨nofun, fun _ => wp_of rfl ⟨?_, ?_, _, _, _, rfl⟩⟩
        · have := hp3.len; omega
        · have := hp3.len; rw [this]; exact hl
    · exact wp_of rfl rfl
  obtain ⟨d, S', e, rfl⟩ := wp_ok w
  exact ⟨S', e⟩
end Zd

namespace Zd
open PySem PySem.Spec PyProof.Rows L2 Zg

def spLaw (K : PySem.W.Frag) : Sp := fun vs H Q _ => ∃ (a : Addr) (ns : List Int), vs = [.ref a] ∧ SqL K H a (ns.map V.int) ∧ ns.length ≤ 63 ∧ ∀ H', Q (.bl true) H'
theorem law_end {P : Program} {w : World} {K : PySem.W.Frag} {mg : Str → Option Value} {base : Heap} {κ : String → Addr} {k : Nat} {f : Addr} {fd : FuncData} {ps : List Str} (F : FnG P w K mg base CX0 k f fd ps (spD ⟨K, κ⟩ 1 L_law)) : FnG P w K mg base CX0 k f fd ps (spLaw K) := by
  have up : ∀ vs H Q E, spLaw K vs H Q E → spD ⟨K, κ⟩ 1 L_law vs H Q E := fun vs H Q E ⟨a, ns, ev, hs, few, k⟩ => by
    subst ev
    obtain ⟨S', e⟩ := law_true ns few
    refine ⟨rfl, ⟨[], [], []⟩, [.scr ns], [], rfl, .one (isD_scr.mpr ⟨a, rfl, ?_⟩), ⟨rfl, List.nodup_nil, nofun, nofun, fun x h => (h.elim nofun nofun), fun n x d h => by simp at h⟩, ?_⟩
    · rcases hs with hs | hs
      · exact .inl ⟨hs, fun h => h.elim nofun fun h => h.elim nofun nofun⟩
      · exact .inr fun _ => .inr hs
    · rw [e]
      exact fun H' p' _ _ v hv => by rw [isD_bl.mp hv]; exact k H'
  exact ⟨fun vs H Q E h => F.many vs H Q E (up vs H Q E h), fun A c fr s H args us vs Q E room e0 b rel h => F.goes A c fr s H args us vs Q E room e0 b rel (up vs H Q E h)⟩
theorem all_mk {l : PySem.W.OpenLaw} {w : World} {K : PySem.W.Frag} {h : Heap} {mg : Str → Option Value} {fa : Addr}
    {t1 t2 : Tok}
    {a_SIDES : Addr}
    {a_RULES : Addr}
    {a_MANNERS : Addr}
    {a_NAMES : Addr}
    {a_COUNTS : Addr}
    {a_STEP_FORMS : Addr}
    {a_EVENT_FORMS : Addr}
    {CW : Addr}
    {C_BadPlan : Addr} {nmBadPlan qBadPlan : Str} {NBadPlan : Addr} {bsBadPlan : List Value} {snBadPlan : List Str} {subBadPlan : List Value} {abBadPlan : Bool} {colBadPlan : Option Bool} {ddBadPlan : Option Addr} {m0BadPlan m1BadPlan m2BadPlan m3BadPlan m5BadPlan : Option Value}
    {C_BadRun : Addr} {nmBadRun qBadRun : Str} {NBadRun : Addr} {bsBadRun : List Value} {snBadRun : List Str} {subBadRun : List Value} {abBadRun : Bool} {colBadRun : Option Bool} {ddBadRun : Option Addr} {m0BadRun m1BadRun m2BadRun m3BadRun m5BadRun : Option Value}
    {fBadPlan___init__ : Addr} {odBadPlan___init__ anBadPlan___init__ : Option Addr} {slBadPlan___init__ : Array (Option Value)} {ocBadPlan___init__ kVBadPlan___init__ dcBadPlan___init__ pmBadPlan___init__ cdBadPlan___init__ ctBadPlan___init__ : Value}
    {fBadRun___init__ : Addr} {odBadRun___init__ anBadRun___init__ : Option Addr} {slBadRun___init__ : Array (Option Value)} {ocBadRun___init__ kVBadRun___init__ dcBadRun___init__ pmBadRun___init__ cdBadRun___init__ ctBadRun___init__ : Value}
    {fis_integer : Addr} {odis_integer anis_integer : Option Addr} {slis_integer : Array (Option Value)} {ocis_integer kVis_integer dcis_integer pmis_integer cdis_integer ctis_integer : Value}
    {fis_name : Addr} {odis_name anis_name : Option Addr} {slis_name : Array (Option Value)} {ocis_name kVis_name dcis_name pmis_name cdis_name ctis_name : Value}
    {fstep_form : Addr} {odstep_form anstep_form : Option Addr} {slstep_form : Array (Option Value)} {ocstep_form kVstep_form dcstep_form pmstep_form cdstep_form ctstep_form : Value}
    {fevent_form : Addr} {odevent_form anevent_form : Option Addr} {slevent_form : Array (Option Value)} {ocevent_form kVevent_form dcevent_form pmevent_form cdevent_form ctevent_form : Value}
    {fis_plain_part : Addr} {odis_plain_part anis_plain_part : Option Addr} {slis_plain_part : Array (Option Value)} {ocis_plain_part kVis_plain_part dcis_plain_part pmis_plain_part cdis_plain_part ctis_plain_part : Value}
    {fis_count : Addr} {odis_count anis_count : Option Addr} {slis_count : Array (Option Value)} {ocis_count kVis_count dcis_count pmis_count cdis_count ctis_count : Value}
    {fcompares_itself : Addr} {odcompares_itself ancompares_itself : Option Addr} {slcompares_itself : Array (Option Value)} {occompares_itself kVcompares_itself dccompares_itself pmcompares_itself cdcompares_itself ctcompares_itself : Value}
    {f_first_word : Addr} {od_first_word an_first_word : Option Addr} {sl_first_word : Array (Option Value)} {oc_first_word kV_first_word dc_first_word pm_first_word cd_first_word ct_first_word : Value}
    {fis_step_form : Addr} {odis_step_form anis_step_form : Option Addr} {slis_step_form : Array (Option Value)} {ocis_step_form kVis_step_form dcis_step_form pmis_step_form cdis_step_form ctis_step_form : Value}
    {fis_event_form : Addr} {odis_event_form anis_event_form : Option Addr} {slis_event_form : Array (Option Value)} {ocis_event_form kVis_event_form dcis_event_form pmis_event_form cdis_event_form ctis_event_form : Value}
    {frow_of_step : Addr} {odrow_of_step anrow_of_step : Option Addr} {slrow_of_step : Array (Option Value)} {ocrow_of_step kVrow_of_step dcrow_of_step pmrow_of_step cdrow_of_step ctrow_of_step : Value}
    {frow_of_event : Addr} {odrow_of_event anrow_of_event : Option Addr} {slrow_of_event : Array (Option Value)} {ocrow_of_event kVrow_of_event dcrow_of_event pmrow_of_event cdrow_of_event ctrow_of_event : Value}
    {f_is_count : Addr} {od_is_count an_is_count : Option Addr} {sl_is_count : Array (Option Value)} {oc_is_count kV_is_count dc_is_count pm_is_count cd_is_count ct_is_count : Value}
    {f_are_parts : Addr} {od_are_parts an_are_parts : Option Addr} {sl_are_parts : Array (Option Value)} {oc_are_parts kV_are_parts dc_are_parts pm_are_parts cd_are_parts ct_are_parts : Value}
    {f_is_part : Addr} {od_is_part an_is_part : Option Addr} {sl_is_part : Array (Option Value)} {oc_is_part kV_is_part dc_is_part pm_is_part cd_is_part ct_is_part : Value}
    {fshow_plan : Addr} {odshow_plan anshow_plan : Option Addr} {slshow_plan : Array (Option Value)} {ocshow_plan kVshow_plan dcshow_plan pmshow_plan cdshow_plan ctshow_plan : Value}
    {fshow_run : Addr} {odshow_run anshow_run : Option Addr} {slshow_run : Array (Option Value)} {ocshow_run kVshow_run dcshow_run pmshow_run cdshow_run ctshow_run : Value}
    {f_law_pot_of : Addr} {od_law_pot_of an_law_pot_of : Option Addr} {sl_law_pot_of : Array (Option Value)} {oc_law_pot_of kV_law_pot_of dc_law_pot_of pm_law_pot_of cd_law_pot_of ct_law_pot_of : Value}
    {f_law_take : Addr} {od_law_take an_law_take : Option Addr} {sl_law_take : Array (Option Value)} {oc_law_take kV_law_take dc_law_take pm_law_take cd_law_take ct_law_take : Value}
    {f_law_of : Addr} {od_law_of an_law_of : Option Addr} {sl_law_of : Array (Option Value)} {oc_law_of kV_law_of dc_law_of pm_law_of cd_law_of ct_law_of : Value}
    {f_law_name : Addr} {od_law_name an_law_name : Option Addr} {sl_law_name : Array (Option Value)} {oc_law_name kV_law_name dc_law_name pm_law_name cd_law_name ct_law_name : Value}
    {f_law_step : Addr} {od_law_step an_law_step : Option Addr} {sl_law_step : Array (Option Value)} {oc_law_step kV_law_step dc_law_step pm_law_step cd_law_step ct_law_step : Value}
    {f_law_event : Addr} {od_law_event an_law_event : Option Addr} {sl_law_event : Array (Option Value)} {oc_law_event kV_law_event dc_law_event pm_law_event cd_law_event ct_law_event : Value}
    {f_law_is_name : Addr} {od_law_is_name an_law_is_name : Option Addr} {sl_law_is_name : Array (Option Value)} {oc_law_is_name kV_law_is_name dc_law_is_name pm_law_is_name cd_law_is_name ct_law_is_name : Value}
    {f_law_is_number : Addr} {od_law_is_number an_law_is_number : Option Addr} {sl_law_is_number : Array (Option Value)} {oc_law_is_number kV_law_is_number dc_law_is_number pm_law_is_number cd_law_is_number ct_law_is_number : Value}
    {f_law_fits : Addr} {od_law_fits an_law_fits : Option Addr} {sl_law_fits : Array (Option Value)} {oc_law_fits kV_law_fits dc_law_fits pm_law_fits cd_law_fits ct_law_fits : Value}
    {f_law_has_form : Addr} {od_law_has_form an_law_has_form : Option Addr} {sl_law_has_form : Array (Option Value)} {oc_law_has_form kV_law_has_form dc_law_has_form pm_law_has_form cd_law_has_form ct_law_has_form : Value}
    {f_law_is_step : Addr} {od_law_is_step an_law_is_step : Option Addr} {sl_law_is_step : Array (Option Value)} {oc_law_is_step kV_law_is_step dc_law_is_step pm_law_is_step cd_law_is_step ct_law_is_step : Value}
    {f_law_is_event : Addr} {od_law_is_event an_law_is_event : Option Addr} {sl_law_is_event : Array (Option Value)} {oc_law_is_event kV_law_is_event dc_law_is_event pm_law_is_event cd_law_is_event ct_law_is_event : Value}
    {f_law_odd : Addr} {od_law_odd an_law_odd : Option Addr} {sl_law_odd : Array (Option Value)} {oc_law_odd kV_law_odd dc_law_odd pm_law_odd cd_law_odd ct_law_odd : Value}
    {f_law_bent : Addr} {od_law_bent an_law_bent : Option Addr} {sl_law_bent : Array (Option Value)} {oc_law_bent kV_law_bent dc_law_bent pm_law_bent cd_law_bent ct_law_bent : Value}
    {f_law_is_cell_twice : Addr} {od_law_is_cell_twice an_law_is_cell_twice : Option Addr} {sl_law_is_cell_twice : Array (Option Value)} {oc_law_is_cell_twice kV_law_is_cell_twice dc_law_is_cell_twice pm_law_is_cell_twice cd_law_is_cell_twice ct_law_is_cell_twice : Value}
    {f_law_heard : Addr} {od_law_heard an_law_heard : Option Addr} {sl_law_heard : Array (Option Value)} {oc_law_heard kV_law_heard dc_law_heard pm_law_heard cd_law_heard ct_law_heard : Value}
    {f_law_right : Addr} {od_law_right an_law_right : Option Addr} {sl_law_right : Array (Option Value)} {oc_law_right kV_law_right dc_law_right pm_law_right cd_law_right ct_law_right : Value}
    {flaw : Addr} {odlaw anlaw : Option Addr} {sllaw : Array (Option Value)} {oclaw kVlaw dclaw pmlaw cdlaw ctlaw : Value}
    (X : K.In h) (G : h.Ns mainGlobals mg) (hfa : mg "law" = some (.ref fa))
    (heW0 : PySem.W.nsIn K mainGlobals "WidthError" = some (some (.ref CW)))
    (heW1 : PySem.W.subIn K (.ref CW) (.type "BaseException") = some true)
    (heW2 : PySem.W.hasDictIn K CW = true)
    (heW3 : PySem.W.typeIn K (.ref CW) = some (.type "type"))
    (heW4 : PySem.W.specialIn K (.builtin "object.__class__") "__get__" = some (some (.builtin "getset_descriptor.__get__")))
    (heW5 : PySem.W.takesIn K (.builtin "object.__class__") = some true)
    (heW6 : PySem.W.nsIn K mainGlobals "ValueError" = some none)
    (he0BadPlan : PySem.W.nsIn K mainGlobals "BadPlan" = some (some (.ref C_BadPlan)))
    (he1BadPlan : K.lookup C_BadPlan = some (excClassObj nmBadPlan qBadPlan C_BadPlan NBadPlan bsBadPlan [.ref CW, .type "ValueError", .type "Exception", .type "BaseException", .type "object"] true snBadPlan subBadPlan abBadPlan colBadPlan ddBadPlan m0BadPlan m1BadPlan m2BadPlan m3BadPlan m5BadPlan "ValueError.__new__"))
    (he2BadPlan : PySem.W.findIn K (.ref C_BadPlan) "__setattr__" = some (some (.builtin "object.__setattr__")))
    (he3BadPlan : PySem.W.findIn K (.ref C_BadPlan) "__getattribute__" = some (some (.builtin "BaseException.__getattribute__")))
    (he4BadPlan : PySem.W.findIn K (.ref C_BadPlan) "__getattr__" = some none)
    (he6BadPlan : PySem.W.keepIn K (.ref C_BadPlan) = true)
    (he7BadPlan : PySem.W.subIn K (.ref C_BadPlan) (.type "BaseException") = some true)
    (he8BadPlan : PySem.W.typeIn K (.ref C_BadPlan) = some (.type "type"))
    (he9BadPlan : PySem.W.hasDictIn K C_BadPlan = true)
    (heaBadPlan : PySem.W.findIn K (.ref C_BadPlan) "__class__" = some (some (.builtin "object.__class__")))
    (hebBadPlan : PySem.W.mroIn K C_BadPlan (.type "object") = some true)
    (hedBadPlan : PySem.W.subIn K (.ref C_BadPlan) (.type "ValueError") = some true)
    (heeBadPlan : PySem.W.subIn K (.ref C_BadPlan) (.ref CW) = some true)
    (hevBadPlanindex : PySem.W.findIn K (.ref C_BadPlan) "index" = some none)
    (he0BadRun : PySem.W.nsIn K mainGlobals "BadRun" = some (some (.ref C_BadRun)))
    (he1BadRun : K.lookup C_BadRun = some (excClassObj nmBadRun qBadRun C_BadRun NBadRun bsBadRun [.ref CW, .type "ValueError", .type "Exception", .type "BaseException", .type "object"] true snBadRun subBadRun abBadRun colBadRun ddBadRun m0BadRun m1BadRun m2BadRun m3BadRun m5BadRun "ValueError.__new__"))
    (he2BadRun : PySem.W.findIn K (.ref C_BadRun) "__setattr__" = some (some (.builtin "object.__setattr__")))
    (he3BadRun : PySem.W.findIn K (.ref C_BadRun) "__getattribute__" = some (some (.builtin "BaseException.__getattribute__")))
    (he4BadRun : PySem.W.findIn K (.ref C_BadRun) "__getattr__" = some none)
    (he6BadRun : PySem.W.keepIn K (.ref C_BadRun) = true)
    (he7BadRun : PySem.W.subIn K (.ref C_BadRun) (.type "BaseException") = some true)
    (he8BadRun : PySem.W.typeIn K (.ref C_BadRun) = some (.type "type"))
    (he9BadRun : PySem.W.hasDictIn K C_BadRun = true)
    (heaBadRun : PySem.W.findIn K (.ref C_BadRun) "__class__" = some (some (.builtin "object.__class__")))
    (hebBadRun : PySem.W.mroIn K C_BadRun (.type "object") = some true)
    (hedBadRun : PySem.W.subIn K (.ref C_BadRun) (.type "ValueError") = some true)
    (heeBadRun : PySem.W.subIn K (.ref C_BadRun) (.ref CW) = some true)
    (hevBadRunindex : PySem.W.findIn K (.ref C_BadRun) "index" = some none)
    (hgMOST : PySem.W.nsIn K mainGlobals "MOST_LETTERS" = some (some (.int 8 t1)))
    (hgGREAT : PySem.W.nsIn K mainGlobals "GREATEST_COUNT" = some (some (.int 999999999 t2)))
    (hu0SIDES : PySem.W.nsIn K mainGlobals "SIDES" = some (some (.ref a_SIDES)))
    (hu1SIDES : tupW K a_SIDES = some (["narrow", "wide"] : List Str))
    (hu0RULES : PySem.W.nsIn K mainGlobals "RULES" = some (some (.ref a_RULES)))
    (hu1RULES : tupW K a_RULES = some (["cut", "empty", "refuse"] : List Str))
    (hu0MANNERS : PySem.W.nsIn K mainGlobals "MANNERS" = some (some (.ref a_MANNERS)))
    (hu1MANNERS : tupW K a_MANNERS = some (["empty", "anew"] : List Str))
    (hu0NAMES : PySem.W.nsIn K mainGlobals "NAMES" = some (some (.ref a_NAMES)))
    (hu1NAMES : tupW K a_NAMES = some (["column", "program"] : List Str))
    (hu0COUNTS : PySem.W.nsIn K mainGlobals "COUNTS" = some (some (.ref a_COUNTS)))
    (hu1COUNTS : tupW K a_COUNTS = some (["edition", "row"] : List Str))
    (hv0STEP_FORMS : PySem.W.nsIn K mainGlobals "STEP_FORMS" = some (some (.ref a_STEP_FORMS)))
    (hv1STEP_FORMS : He.dicW K a_STEP_FORMS = some (He.keysIn w.params (t_STEP_FORMS.map (·.1))))
    (hv2STEP_FORMS : tabOk K a_STEP_FORMS t_STEP_FORMS = true)
    (hv0EVENT_FORMS : PySem.W.nsIn K mainGlobals "EVENT_FORMS" = some (some (.ref a_EVENT_FORMS)))
    (hv1EVENT_FORMS : He.dicW K a_EVENT_FORMS = some (He.keysIn w.params (t_EVENT_FORMS.map (·.1))))
    (hv2EVENT_FORMS : tabOk K a_EVENT_FORMS t_EVENT_FORMS = true)
    (haBadPlan___init__ : PySem.W.findIn K (.ref C_BadPlan) "__init__" = some (some (.ref fBadPlan___init__)))
    (hiBadPlan___init__ : PySem.W.isFn K (.ref fBadPlan___init__) = true)
    (hlBadPlan___init__ : K.lookup fBadPlan___init__ = some ⟨ocBadPlan___init__, odBadPlan___init__, .func (PySem.W.fnOf "__init__" "BadPlan.__init__" (defArgs s_BadPlan___init__) (defBody s_BadPlan___init__) (defScope s_BadPlan___init__) .none kVBadPlan___init__ dcBadPlan___init__ pmBadPlan___init__ anBadPlan___init__ cdBadPlan___init__ ctBadPlan___init__), slBadPlan___init__⟩)
    (hcBadPlan___init__ : PySem.W.codeIn K cdBadPlan___init__ "BadPlan.__init__" = true)
    (hkBadPlan___init__ : PySem.W.keepIn K (.ref fBadPlan___init__) = true)
    (haBadRun___init__ : PySem.W.findIn K (.ref C_BadRun) "__init__" = some (some (.ref fBadRun___init__)))
    (hiBadRun___init__ : PySem.W.isFn K (.ref fBadRun___init__) = true)
    (hlBadRun___init__ : K.lookup fBadRun___init__ = some ⟨ocBadRun___init__, odBadRun___init__, .func (PySem.W.fnOf "__init__" "BadRun.__init__" (defArgs s_BadRun___init__) (defBody s_BadRun___init__) (defScope s_BadRun___init__) .none kVBadRun___init__ dcBadRun___init__ pmBadRun___init__ anBadRun___init__ cdBadRun___init__ ctBadRun___init__), slBadRun___init__⟩)
    (hcBadRun___init__ : PySem.W.codeIn K cdBadRun___init__ "BadRun.__init__" = true)
    (hkBadRun___init__ : PySem.W.keepIn K (.ref fBadRun___init__) = true)
    (hais_integer : PySem.W.nsIn K mainGlobals "is_integer" = some (some (.ref fis_integer)))
    (hlis_integer : K.lookup fis_integer = some ⟨ocis_integer, odis_integer, .func (PySem.W.fnOf "is_integer" "is_integer" (defArgs s_is_integer) (defBody s_is_integer) (defScope s_is_integer) .none kVis_integer dcis_integer pmis_integer anis_integer cdis_integer ctis_integer), slis_integer⟩)
    (hcis_integer : PySem.W.codeIn K cdis_integer "is_integer" = true)
    (hkis_integer : PySem.W.keepIn K (.ref fis_integer) = true)
    (hais_name : PySem.W.nsIn K mainGlobals "is_name" = some (some (.ref fis_name)))
    (hlis_name : K.lookup fis_name = some ⟨ocis_name, odis_name, .func (PySem.W.fnOf "is_name" "is_name" (defArgs s_is_name) (defBody s_is_name) (defScope s_is_name) .none kVis_name dcis_name pmis_name anis_name cdis_name ctis_name), slis_name⟩)
    (hcis_name : PySem.W.codeIn K cdis_name "is_name" = true)
    (hkis_name : PySem.W.keepIn K (.ref fis_name) = true)
    (hastep_form : PySem.W.nsIn K mainGlobals "step_form" = some (some (.ref fstep_form)))
    (hlstep_form : K.lookup fstep_form = some ⟨ocstep_form, odstep_form, .func (PySem.W.fnOf "step_form" "step_form" (defArgs s_step_form) (defBody s_step_form) (defScope s_step_form) .none kVstep_form dcstep_form pmstep_form anstep_form cdstep_form ctstep_form), slstep_form⟩)
    (hcstep_form : PySem.W.codeIn K cdstep_form "step_form" = true)
    (hkstep_form : PySem.W.keepIn K (.ref fstep_form) = true)
    (haevent_form : PySem.W.nsIn K mainGlobals "event_form" = some (some (.ref fevent_form)))
    (hlevent_form : K.lookup fevent_form = some ⟨ocevent_form, odevent_form, .func (PySem.W.fnOf "event_form" "event_form" (defArgs s_event_form) (defBody s_event_form) (defScope s_event_form) .none kVevent_form dcevent_form pmevent_form anevent_form cdevent_form ctevent_form), slevent_form⟩)
    (hcevent_form : PySem.W.codeIn K cdevent_form "event_form" = true)
    (hkevent_form : PySem.W.keepIn K (.ref fevent_form) = true)
    (hais_plain_part : PySem.W.nsIn K mainGlobals "is_plain_part" = some (some (.ref fis_plain_part)))
    (hlis_plain_part : K.lookup fis_plain_part = some ⟨ocis_plain_part, odis_plain_part, .func (PySem.W.fnOf "is_plain_part" "is_plain_part" (defArgs s_is_plain_part) (defBody s_is_plain_part) (defScope s_is_plain_part) .none kVis_plain_part dcis_plain_part pmis_plain_part anis_plain_part cdis_plain_part ctis_plain_part), slis_plain_part⟩)
    (hcis_plain_part : PySem.W.codeIn K cdis_plain_part "is_plain_part" = true)
    (hkis_plain_part : PySem.W.keepIn K (.ref fis_plain_part) = true)
    (hais_count : PySem.W.nsIn K mainGlobals "is_count" = some (some (.ref fis_count)))
    (hlis_count : K.lookup fis_count = some ⟨ocis_count, odis_count, .func (PySem.W.fnOf "is_count" "is_count" (defArgs s_is_count) (defBody s_is_count) (defScope s_is_count) .none kVis_count dcis_count pmis_count anis_count cdis_count ctis_count), slis_count⟩)
    (hcis_count : PySem.W.codeIn K cdis_count "is_count" = true)
    (hkis_count : PySem.W.keepIn K (.ref fis_count) = true)
    (hacompares_itself : PySem.W.nsIn K mainGlobals "compares_itself" = some (some (.ref fcompares_itself)))
    (hlcompares_itself : K.lookup fcompares_itself = some ⟨occompares_itself, odcompares_itself, .func (PySem.W.fnOf "compares_itself" "compares_itself" (defArgs s_compares_itself) (defBody s_compares_itself) (defScope s_compares_itself) .none kVcompares_itself dccompares_itself pmcompares_itself ancompares_itself cdcompares_itself ctcompares_itself), slcompares_itself⟩)
    (hccompares_itself : PySem.W.codeIn K cdcompares_itself "compares_itself" = true)
    (hkcompares_itself : PySem.W.keepIn K (.ref fcompares_itself) = true)
    (ha_first_word : PySem.W.nsIn K mainGlobals "_first_word" = some (some (.ref f_first_word)))
    (hl_first_word : K.lookup f_first_word = some ⟨oc_first_word, od_first_word, .func (PySem.W.fnOf "_first_word" "_first_word" (defArgs s__first_word) (defBody s__first_word) (defScope s__first_word) .none kV_first_word dc_first_word pm_first_word an_first_word cd_first_word ct_first_word), sl_first_word⟩)
    (hc_first_word : PySem.W.codeIn K cd_first_word "_first_word" = true)
    (hk_first_word : PySem.W.keepIn K (.ref f_first_word) = true)
    (hais_step_form : PySem.W.nsIn K mainGlobals "is_step_form" = some (some (.ref fis_step_form)))
    (hlis_step_form : K.lookup fis_step_form = some ⟨ocis_step_form, odis_step_form, .func (PySem.W.fnOf "is_step_form" "is_step_form" (defArgs s_is_step_form) (defBody s_is_step_form) (defScope s_is_step_form) .none kVis_step_form dcis_step_form pmis_step_form anis_step_form cdis_step_form ctis_step_form), slis_step_form⟩)
    (hcis_step_form : PySem.W.codeIn K cdis_step_form "is_step_form" = true)
    (hkis_step_form : PySem.W.keepIn K (.ref fis_step_form) = true)
    (hais_event_form : PySem.W.nsIn K mainGlobals "is_event_form" = some (some (.ref fis_event_form)))
    (hlis_event_form : K.lookup fis_event_form = some ⟨ocis_event_form, odis_event_form, .func (PySem.W.fnOf "is_event_form" "is_event_form" (defArgs s_is_event_form) (defBody s_is_event_form) (defScope s_is_event_form) .none kVis_event_form dcis_event_form pmis_event_form anis_event_form cdis_event_form ctis_event_form), slis_event_form⟩)
    (hcis_event_form : PySem.W.codeIn K cdis_event_form "is_event_form" = true)
    (hkis_event_form : PySem.W.keepIn K (.ref fis_event_form) = true)
    (harow_of_step : PySem.W.nsIn K mainGlobals "row_of_step" = some (some (.ref frow_of_step)))
    (hlrow_of_step : K.lookup frow_of_step = some ⟨ocrow_of_step, odrow_of_step, .func (PySem.W.fnOf "row_of_step" "row_of_step" (defArgs s_row_of_step) (defBody s_row_of_step) (defScope s_row_of_step) .none kVrow_of_step dcrow_of_step pmrow_of_step anrow_of_step cdrow_of_step ctrow_of_step), slrow_of_step⟩)
    (hcrow_of_step : PySem.W.codeIn K cdrow_of_step "row_of_step" = true)
    (hkrow_of_step : PySem.W.keepIn K (.ref frow_of_step) = true)
    (harow_of_event : PySem.W.nsIn K mainGlobals "row_of_event" = some (some (.ref frow_of_event)))
    (hlrow_of_event : K.lookup frow_of_event = some ⟨ocrow_of_event, odrow_of_event, .func (PySem.W.fnOf "row_of_event" "row_of_event" (defArgs s_row_of_event) (defBody s_row_of_event) (defScope s_row_of_event) .none kVrow_of_event dcrow_of_event pmrow_of_event anrow_of_event cdrow_of_event ctrow_of_event), slrow_of_event⟩)
    (hcrow_of_event : PySem.W.codeIn K cdrow_of_event "row_of_event" = true)
    (hkrow_of_event : PySem.W.keepIn K (.ref frow_of_event) = true)
    (ha_is_count : PySem.W.nsIn K mainGlobals "_is_count" = some (some (.ref f_is_count)))
    (hl_is_count : K.lookup f_is_count = some ⟨oc_is_count, od_is_count, .func (PySem.W.fnOf "_is_count" "_is_count" (defArgs s__is_count) (defBody s__is_count) (defScope s__is_count) .none kV_is_count dc_is_count pm_is_count an_is_count cd_is_count ct_is_count), sl_is_count⟩)
    (hc_is_count : PySem.W.codeIn K cd_is_count "_is_count" = true)
    (hk_is_count : PySem.W.keepIn K (.ref f_is_count) = true)
    (ha_are_parts : PySem.W.nsIn K mainGlobals "_are_parts" = some (some (.ref f_are_parts)))
    (hl_are_parts : K.lookup f_are_parts = some ⟨oc_are_parts, od_are_parts, .func (PySem.W.fnOf "_are_parts" "_are_parts" (defArgs s__are_parts) (defBody s__are_parts) (defScope s__are_parts) .none kV_are_parts dc_are_parts pm_are_parts an_are_parts cd_are_parts ct_are_parts), sl_are_parts⟩)
    (hc_are_parts : PySem.W.codeIn K cd_are_parts "_are_parts" = true)
    (hk_are_parts : PySem.W.keepIn K (.ref f_are_parts) = true)
    (ha_is_part : PySem.W.nsIn K mainGlobals "_is_part" = some (some (.ref f_is_part)))
    (hl_is_part : K.lookup f_is_part = some ⟨oc_is_part, od_is_part, .func (PySem.W.fnOf "_is_part" "_is_part" (defArgs s__is_part) (defBody s__is_part) (defScope s__is_part) .none kV_is_part dc_is_part pm_is_part an_is_part cd_is_part ct_is_part), sl_is_part⟩)
    (hc_is_part : PySem.W.codeIn K cd_is_part "_is_part" = true)
    (hk_is_part : PySem.W.keepIn K (.ref f_is_part) = true)
    (hashow_plan : PySem.W.nsIn K mainGlobals "show_plan" = some (some (.ref fshow_plan)))
    (hlshow_plan : K.lookup fshow_plan = some ⟨ocshow_plan, odshow_plan, .func (PySem.W.fnOf "show_plan" "show_plan" (defArgs s_show_plan) (defBody s_show_plan) (defScope s_show_plan) .none kVshow_plan dcshow_plan pmshow_plan anshow_plan cdshow_plan ctshow_plan), slshow_plan⟩)
    (hcshow_plan : PySem.W.codeIn K cdshow_plan "show_plan" = true)
    (hkshow_plan : PySem.W.keepIn K (.ref fshow_plan) = true)
    (hashow_run : PySem.W.nsIn K mainGlobals "show_run" = some (some (.ref fshow_run)))
    (hlshow_run : K.lookup fshow_run = some ⟨ocshow_run, odshow_run, .func (PySem.W.fnOf "show_run" "show_run" (defArgs s_show_run) (defBody s_show_run) (defScope s_show_run) .none kVshow_run dcshow_run pmshow_run anshow_run cdshow_run ctshow_run), slshow_run⟩)
    (hcshow_run : PySem.W.codeIn K cdshow_run "show_run" = true)
    (hkshow_run : PySem.W.keepIn K (.ref fshow_run) = true)
    (ha_law_pot_of : PySem.W.nsIn K mainGlobals "_law_pot_of" = some (some (.ref f_law_pot_of)))
    (hl_law_pot_of : K.lookup f_law_pot_of = some ⟨oc_law_pot_of, od_law_pot_of, .func (PySem.W.fnOf "_law_pot_of" "_law_pot_of" (defArgs s__law_pot_of) (defBody s__law_pot_of) (defScope s__law_pot_of) .none kV_law_pot_of dc_law_pot_of pm_law_pot_of an_law_pot_of cd_law_pot_of ct_law_pot_of), sl_law_pot_of⟩)
    (hc_law_pot_of : PySem.W.codeIn K cd_law_pot_of "_law_pot_of" = true)
    (hk_law_pot_of : PySem.W.keepIn K (.ref f_law_pot_of) = true)
    (ha_law_take : PySem.W.nsIn K mainGlobals "_law_take" = some (some (.ref f_law_take)))
    (hl_law_take : K.lookup f_law_take = some ⟨oc_law_take, od_law_take, .func (PySem.W.fnOf "_law_take" "_law_take" (defArgs s__law_take) (defBody s__law_take) (defScope s__law_take) .none kV_law_take dc_law_take pm_law_take an_law_take cd_law_take ct_law_take), sl_law_take⟩)
    (hc_law_take : PySem.W.codeIn K cd_law_take "_law_take" = true)
    (hk_law_take : PySem.W.keepIn K (.ref f_law_take) = true)
    (ha_law_of : PySem.W.nsIn K mainGlobals "_law_of" = some (some (.ref f_law_of)))
    (hl_law_of : K.lookup f_law_of = some ⟨oc_law_of, od_law_of, .func (PySem.W.fnOf "_law_of" "_law_of" (defArgs s__law_of) (defBody s__law_of) (defScope s__law_of) .none kV_law_of dc_law_of pm_law_of an_law_of cd_law_of ct_law_of), sl_law_of⟩)
    (hc_law_of : PySem.W.codeIn K cd_law_of "_law_of" = true)
    (hk_law_of : PySem.W.keepIn K (.ref f_law_of) = true)
    (ha_law_name : PySem.W.nsIn K mainGlobals "_law_name" = some (some (.ref f_law_name)))
    (hl_law_name : K.lookup f_law_name = some ⟨oc_law_name, od_law_name, .func (PySem.W.fnOf "_law_name" "_law_name" (defArgs s__law_name) (defBody s__law_name) (defScope s__law_name) .none kV_law_name dc_law_name pm_law_name an_law_name cd_law_name ct_law_name), sl_law_name⟩)
    (hc_law_name : PySem.W.codeIn K cd_law_name "_law_name" = true)
    (hk_law_name : PySem.W.keepIn K (.ref f_law_name) = true)
    (ha_law_step : PySem.W.nsIn K mainGlobals "_law_step" = some (some (.ref f_law_step)))
    (hl_law_step : K.lookup f_law_step = some ⟨oc_law_step, od_law_step, .func (PySem.W.fnOf "_law_step" "_law_step" (defArgs s__law_step) (defBody s__law_step) (defScope s__law_step) .none kV_law_step dc_law_step pm_law_step an_law_step cd_law_step ct_law_step), sl_law_step⟩)
    (hc_law_step : PySem.W.codeIn K cd_law_step "_law_step" = true)
    (hk_law_step : PySem.W.keepIn K (.ref f_law_step) = true)
    (ha_law_event : PySem.W.nsIn K mainGlobals "_law_event" = some (some (.ref f_law_event)))
    (hl_law_event : K.lookup f_law_event = some ⟨oc_law_event, od_law_event, .func (PySem.W.fnOf "_law_event" "_law_event" (defArgs s__law_event) (defBody s__law_event) (defScope s__law_event) .none kV_law_event dc_law_event pm_law_event an_law_event cd_law_event ct_law_event), sl_law_event⟩)
    (hc_law_event : PySem.W.codeIn K cd_law_event "_law_event" = true)
    (hk_law_event : PySem.W.keepIn K (.ref f_law_event) = true)
    (ha_law_is_name : PySem.W.nsIn K mainGlobals "_law_is_name" = some (some (.ref f_law_is_name)))
    (hl_law_is_name : K.lookup f_law_is_name = some ⟨oc_law_is_name, od_law_is_name, .func (PySem.W.fnOf "_law_is_name" "_law_is_name" (defArgs s__law_is_name) (defBody s__law_is_name) (defScope s__law_is_name) .none kV_law_is_name dc_law_is_name pm_law_is_name an_law_is_name cd_law_is_name ct_law_is_name), sl_law_is_name⟩)
    (hc_law_is_name : PySem.W.codeIn K cd_law_is_name "_law_is_name" = true)
    (hk_law_is_name : PySem.W.keepIn K (.ref f_law_is_name) = true)
    (ha_law_is_number : PySem.W.nsIn K mainGlobals "_law_is_number" = some (some (.ref f_law_is_number)))
    (hl_law_is_number : K.lookup f_law_is_number = some ⟨oc_law_is_number, od_law_is_number, .func (PySem.W.fnOf "_law_is_number" "_law_is_number" (defArgs s__law_is_number) (defBody s__law_is_number) (defScope s__law_is_number) .none kV_law_is_number dc_law_is_number pm_law_is_number an_law_is_number cd_law_is_number ct_law_is_number), sl_law_is_number⟩)
    (hc_law_is_number : PySem.W.codeIn K cd_law_is_number "_law_is_number" = true)
    (hk_law_is_number : PySem.W.keepIn K (.ref f_law_is_number) = true)
    (ha_law_fits : PySem.W.nsIn K mainGlobals "_law_fits" = some (some (.ref f_law_fits)))
    (hl_law_fits : K.lookup f_law_fits = some ⟨oc_law_fits, od_law_fits, .func (PySem.W.fnOf "_law_fits" "_law_fits" (defArgs s__law_fits) (defBody s__law_fits) (defScope s__law_fits) .none kV_law_fits dc_law_fits pm_law_fits an_law_fits cd_law_fits ct_law_fits), sl_law_fits⟩)
    (hc_law_fits : PySem.W.codeIn K cd_law_fits "_law_fits" = true)
    (hk_law_fits : PySem.W.keepIn K (.ref f_law_fits) = true)
    (ha_law_has_form : PySem.W.nsIn K mainGlobals "_law_has_form" = some (some (.ref f_law_has_form)))
    (hl_law_has_form : K.lookup f_law_has_form = some ⟨oc_law_has_form, od_law_has_form, .func (PySem.W.fnOf "_law_has_form" "_law_has_form" (defArgs s__law_has_form) (defBody s__law_has_form) (defScope s__law_has_form) .none kV_law_has_form dc_law_has_form pm_law_has_form an_law_has_form cd_law_has_form ct_law_has_form), sl_law_has_form⟩)
    (hc_law_has_form : PySem.W.codeIn K cd_law_has_form "_law_has_form" = true)
    (hk_law_has_form : PySem.W.keepIn K (.ref f_law_has_form) = true)
    (ha_law_is_step : PySem.W.nsIn K mainGlobals "_law_is_step" = some (some (.ref f_law_is_step)))
    (hl_law_is_step : K.lookup f_law_is_step = some ⟨oc_law_is_step, od_law_is_step, .func (PySem.W.fnOf "_law_is_step" "_law_is_step" (defArgs s__law_is_step) (defBody s__law_is_step) (defScope s__law_is_step) .none kV_law_is_step dc_law_is_step pm_law_is_step an_law_is_step cd_law_is_step ct_law_is_step), sl_law_is_step⟩)
    (hc_law_is_step : PySem.W.codeIn K cd_law_is_step "_law_is_step" = true)
    (hk_law_is_step : PySem.W.keepIn K (.ref f_law_is_step) = true)
    (ha_law_is_event : PySem.W.nsIn K mainGlobals "_law_is_event" = some (some (.ref f_law_is_event)))
    (hl_law_is_event : K.lookup f_law_is_event = some ⟨oc_law_is_event, od_law_is_event, .func (PySem.W.fnOf "_law_is_event" "_law_is_event" (defArgs s__law_is_event) (defBody s__law_is_event) (defScope s__law_is_event) .none kV_law_is_event dc_law_is_event pm_law_is_event an_law_is_event cd_law_is_event ct_law_is_event), sl_law_is_event⟩)
    (hc_law_is_event : PySem.W.codeIn K cd_law_is_event "_law_is_event" = true)
    (hk_law_is_event : PySem.W.keepIn K (.ref f_law_is_event) = true)
    (ha_law_odd : PySem.W.nsIn K mainGlobals "_law_odd" = some (some (.ref f_law_odd)))
    (hl_law_odd : K.lookup f_law_odd = some ⟨oc_law_odd, od_law_odd, .func (PySem.W.fnOf "_law_odd" "_law_odd" (defArgs s__law_odd) (defBody s__law_odd) (defScope s__law_odd) .none kV_law_odd dc_law_odd pm_law_odd an_law_odd cd_law_odd ct_law_odd), sl_law_odd⟩)
    (hc_law_odd : PySem.W.codeIn K cd_law_odd "_law_odd" = true)
    (hk_law_odd : PySem.W.keepIn K (.ref f_law_odd) = true)
    (ha_law_bent : PySem.W.nsIn K mainGlobals "_law_bent" = some (some (.ref f_law_bent)))
    (hl_law_bent : K.lookup f_law_bent = some ⟨oc_law_bent, od_law_bent, .func (PySem.W.fnOf "_law_bent" "_law_bent" (defArgs s__law_bent) (defBody s__law_bent) (defScope s__law_bent) .none kV_law_bent dc_law_bent pm_law_bent an_law_bent cd_law_bent ct_law_bent), sl_law_bent⟩)
    (hc_law_bent : PySem.W.codeIn K cd_law_bent "_law_bent" = true)
    (hk_law_bent : PySem.W.keepIn K (.ref f_law_bent) = true)
    (ha_law_is_cell_twice : PySem.W.nsIn K mainGlobals "_law_is_cell_twice" = some (some (.ref f_law_is_cell_twice)))
    (hl_law_is_cell_twice : K.lookup f_law_is_cell_twice = some ⟨oc_law_is_cell_twice, od_law_is_cell_twice, .func (PySem.W.fnOf "_law_is_cell_twice" "_law_is_cell_twice" (defArgs s__law_is_cell_twice) (defBody s__law_is_cell_twice) (defScope s__law_is_cell_twice) .none kV_law_is_cell_twice dc_law_is_cell_twice pm_law_is_cell_twice an_law_is_cell_twice cd_law_is_cell_twice ct_law_is_cell_twice), sl_law_is_cell_twice⟩)
    (hc_law_is_cell_twice : PySem.W.codeIn K cd_law_is_cell_twice "_law_is_cell_twice" = true)
    (hk_law_is_cell_twice : PySem.W.keepIn K (.ref f_law_is_cell_twice) = true)
    (ha_law_heard : PySem.W.nsIn K mainGlobals "_law_heard" = some (some (.ref f_law_heard)))
    (hl_law_heard : K.lookup f_law_heard = some ⟨oc_law_heard, od_law_heard, .func (PySem.W.fnOf "_law_heard" "_law_heard" (defArgs s__law_heard) (defBody s__law_heard) (defScope s__law_heard) .none kV_law_heard dc_law_heard pm_law_heard an_law_heard cd_law_heard ct_law_heard), sl_law_heard⟩)
    (hc_law_heard : PySem.W.codeIn K cd_law_heard "_law_heard" = true)
    (hk_law_heard : PySem.W.keepIn K (.ref f_law_heard) = true)
    (ha_law_right : PySem.W.nsIn K mainGlobals "_law_right" = some (some (.ref f_law_right)))
    (hl_law_right : K.lookup f_law_right = some ⟨oc_law_right, od_law_right, .func (PySem.W.fnOf "_law_right" "_law_right" (defArgs s__law_right) (defBody s__law_right) (defScope s__law_right) .none kV_law_right dc_law_right pm_law_right an_law_right cd_law_right ct_law_right), sl_law_right⟩)
    (hc_law_right : PySem.W.codeIn K cd_law_right "_law_right" = true)
    (hk_law_right : PySem.W.keepIn K (.ref f_law_right) = true)
    (halaw : PySem.W.nsIn K mainGlobals "law" = some (some (.ref flaw)))
    (hllaw : K.lookup flaw = some ⟨oclaw, odlaw, .func (PySem.W.fnOf "law" "law" (defArgs s_law) (defBody s_law) (defScope s_law) .none kVlaw dclaw pmlaw anlaw cdlaw ctlaw), sllaw⟩)
    (hclaw : PySem.W.codeIn K cdlaw "law" = true)
    (hklaw : PySem.W.keepIn K (.ref flaw) = true)
    (hefBadPlan : PySem.W.typeIn K (.ref fBadPlan___init__) = some (.type "function"))
    (hefBadRun : PySem.W.typeIn K (.ref fBadRun___init__) = some (.type "function"))
    (hzint : PySem.W.nsIn K mainGlobals "int" = some none)
    (hzlen : PySem.W.nsIn K mainGlobals "len" = some none)
    (hzabs : PySem.W.nsIn K mainGlobals "abs" = some none)
    (hzbool : PySem.W.nsIn K mainGlobals "bool" = some none)
    (hztuple : PySem.W.nsIn K mainGlobals "tuple" = some none)
    (hzisinstance : PySem.W.nsIn K mainGlobals "isinstance" = some none)
    (hzrange : PySem.W.nsIn K mainGlobals "range" = some none)
    (hzmax : PySem.W.nsIn K mainGlobals "max" = some none)
    (hzmin : PySem.W.nsIn K mainGlobals "min" = some none)
    (hzall : PySem.W.nsIn K mainGlobals "all" = some none)
    (hzrepr : PySem.W.nsIn K mainGlobals "repr" = some none)
    (hzstr : PySem.W.nsIn K mainGlobals "str" = some none)
    (hzany : PySem.W.nsIn K mainGlobals "any" = some none)
    (hzlist : PySem.W.nsIn K mainGlobals "list" = some none)
    (hzzip : PySem.W.nsIn K mainGlobals "zip" = some none)
    (hzenumerate : PySem.W.nsIn K mainGlobals "enumerate" = some none) :
    ∃ fd : FuncData, (∀ (s : Shared) (v : Value), BindsTo s fd ⟨[v], []⟩ [("_law_script", v)]) ∧ ∀ base : Heap, K.In base → base.Ns mainGlobals mg → FnG l.prog w K mg base CX0 11 fa fd P_law (spLaw K) := by
  have e := hfa.symm.trans (PySem.W.mg_of X G halaw)
  cases e
  have T : TxD mg := ⟨PySem.W.mg_none_of X G hzint, PySem.W.mg_none_of X G hzlen, PySem.W.mg_none_of X G hzabs, PySem.W.mg_none_of X G hzbool, PySem.W.mg_none_of X G hztuple, PySem.W.mg_none_of X G hzisinstance, PySem.W.mg_none_of X G hzrange, PySem.W.mg_none_of X G hzmax, PySem.W.mg_none_of X G hzmin, PySem.W.mg_none_of X G hzall, PySem.W.mg_none_of X G hzrepr, PySem.W.mg_none_of X G hzstr, PySem.W.mg_none_of X G hzany, PySem.W.mg_none_of X G hzlist, PySem.W.mg_none_of X G hzzip, PySem.W.mg_none_of X G hzenumerate⟩
  have n_ve := PySem.W.mg_none_of X G heW6
  have g_WidthError := PySem.W.mg_of X G heW0
  have FBadPlan___init__ := fun_mk (st := s_BadPlan___init__) hlBadPlan___init__ hcBadPlan___init__ hkBadPlan___init__
  have bBadPlan___init__ := FBadPlan___init__.binds (ps := P_BadPlan___init__) fun _ _ _ _ _ _ us hl => match us, hl with | [_, _], _ => rfl
  have FBadRun___init__ := fun_mk (st := s_BadRun___init__) hlBadRun___init__ hcBadRun___init__ hkBadRun___init__
  have bBadRun___init__ := FBadRun___init__.binds (ps := P_BadRun___init__) fun _ _ _ _ _ _ us hl => match us, hl with | [_, _], _ => rfl
  have Fis_integer := fun_mk (st := s_is_integer) hlis_integer hcis_integer hkis_integer
  have bis_integer := Fis_integer.binds (ps := P_is_integer) fun _ _ _ _ _ _ us hl => match us, hl with | [_], _ => rfl
  have Fis_name := fun_mk (st := s_is_name) hlis_name hcis_name hkis_name
  have bis_name := Fis_name.binds (ps := P_is_name) fun _ _ _ _ _ _ us hl => match us, hl with | [_], _ => rfl
  have Fstep_form := fun_mk (st := s_step_form) hlstep_form hcstep_form hkstep_form
  have bstep_form := Fstep_form.binds (ps := P_step_form) fun _ _ _ _ _ _ us hl => match us, hl with | [_], _ => rfl
  have Fevent_form := fun_mk (st := s_event_form) hlevent_form hcevent_form hkevent_form
  have bevent_form := Fevent_form.binds (ps := P_event_form) fun _ _ _ _ _ _ us hl => match us, hl with | [_], _ => rfl
  have Fis_plain_part := fun_mk (st := s_is_plain_part) hlis_plain_part hcis_plain_part hkis_plain_part
  have bis_plain_part := Fis_plain_part.binds (ps := P_is_plain_part) fun _ _ _ _ _ _ us hl => match us, hl with | [_, _], _ => rfl
  have Fis_count := fun_mk (st := s_is_count) hlis_count hcis_count hkis_count
  have bis_count := Fis_count.binds (ps := P_is_count) fun _ _ _ _ _ _ us hl => match us, hl with | [_], _ => rfl
  have Fcompares_itself := fun_mk (st := s_compares_itself) hlcompares_itself hccompares_itself hkcompares_itself
  have bcompares_itself := Fcompares_itself.binds (ps := P_compares_itself) fun _ _ _ _ _ _ us hl => match us, hl with | [_], _ => rfl
  have F_first_word := fun_mk (st := s__first_word) hl_first_word hc_first_word hk_first_word
  have b_first_word := F_first_word.binds (ps := P__first_word) fun _ _ _ _ _ _ us hl => match us, hl with | [_], _ => rfl
  have Fis_step_form := fun_mk (st := s_is_step_form) hlis_step_form hcis_step_form hkis_step_form
  have bis_step_form := Fis_step_form.binds (ps := P_is_step_form) fun _ _ _ _ _ _ us hl => match us, hl with | [_], _ => rfl
  have Fis_event_form := fun_mk (st := s_is_event_form) hlis_event_form hcis_event_form hkis_event_form
  have bis_event_form := Fis_event_form.binds (ps := P_is_event_form) fun _ _ _ _ _ _ us hl => match us, hl with | [_], _ => rfl
  have Frow_of_step := fun_mk (st := s_row_of_step) hlrow_of_step hcrow_of_step hkrow_of_step
  have brow_of_step := Frow_of_step.binds (ps := P_row_of_step) fun _ _ _ _ _ _ us hl => match us, hl with | [_], _ => rfl
  have Frow_of_event := fun_mk (st := s_row_of_event) hlrow_of_event hcrow_of_event hkrow_of_event
  have brow_of_event := Frow_of_event.binds (ps := P_row_of_event) fun _ _ _ _ _ _ us hl => match us, hl with | [_], _ => rfl
  have F_is_count := fun_mk (st := s__is_count) hl_is_count hc_is_count hk_is_count
  have b_is_count := F_is_count.binds (ps := P__is_count) fun _ _ _ _ _ _ us hl => match us, hl with | [_], _ => rfl
  have F_are_parts := fun_mk (st := s__are_parts) hl_are_parts hc_are_parts hk_are_parts
  have b_are_parts := F_are_parts.binds (ps := P__are_parts) fun _ _ _ _ _ _ us hl => match us, hl with | [_, _], _ => rfl
  have F_is_part := fun_mk (st := s__is_part) hl_is_part hc_is_part hk_is_part
  have b_is_part := F_is_part.binds (ps := P__is_part) fun _ _ _ _ _ _ us hl => match us, hl with | [_, _], _ => rfl
  have Fshow_plan := fun_mk (st := s_show_plan) hlshow_plan hcshow_plan hkshow_plan
  have bshow_plan := Fshow_plan.binds (ps := P_show_plan) fun _ _ _ _ _ _ us hl => match us, hl with | [_], _ => rfl
  have Fshow_run := fun_mk (st := s_show_run) hlshow_run hcshow_run hkshow_run
  have bshow_run := Fshow_run.binds (ps := P_show_run) fun _ _ _ _ _ _ us hl => match us, hl with | [_], _ => rfl
  have F_law_pot_of := fun_mk (st := s__law_pot_of) hl_law_pot_of hc_law_pot_of hk_law_pot_of
  have b_law_pot_of := F_law_pot_of.binds (ps := P__law_pot_of) fun _ _ _ _ _ _ us hl => match us, hl with | [_, _], _ => rfl
  have F_law_take := fun_mk (st := s__law_take) hl_law_take hc_law_take hk_law_take
  have b_law_take := F_law_take.binds (ps := P__law_take) fun _ _ _ _ _ _ us hl => match us, hl with | [_, _], _ => rfl
  have F_law_of := fun_mk (st := s__law_of) hl_law_of hc_law_of hk_law_of
  have b_law_of := F_law_of.binds (ps := P__law_of) fun _ _ _ _ _ _ us hl => match us, hl with | [_, _], _ => rfl
  have F_law_name := fun_mk (st := s__law_name) hl_law_name hc_law_name hk_law_name
  have b_law_name := F_law_name.binds (ps := P__law_name) fun _ _ _ _ _ _ us hl => match us, hl with | [_], _ => rfl
  have F_law_step := fun_mk (st := s__law_step) hl_law_step hc_law_step hk_law_step
  have b_law_step := F_law_step.binds (ps := P__law_step) fun _ _ _ _ _ _ us hl => match us, hl with | [_], _ => rfl
  have F_law_event := fun_mk (st := s__law_event) hl_law_event hc_law_event hk_law_event
  have b_law_event := F_law_event.binds (ps := P__law_event) fun _ _ _ _ _ _ us hl => match us, hl with | [_], _ => rfl
  have F_law_is_name := fun_mk (st := s__law_is_name) hl_law_is_name hc_law_is_name hk_law_is_name
  have b_law_is_name := F_law_is_name.binds (ps := P__law_is_name) fun _ _ _ _ _ _ us hl => match us, hl with | [_], _ => rfl
  have F_law_is_number := fun_mk (st := s__law_is_number) hl_law_is_number hc_law_is_number hk_law_is_number
  have b_law_is_number := F_law_is_number.binds (ps := P__law_is_number) fun _ _ _ _ _ _ us hl => match us, hl with | [_], _ => rfl
  have F_law_fits := fun_mk (st := s__law_fits) hl_law_fits hc_law_fits hk_law_fits
  have b_law_fits := F_law_fits.binds (ps := P__law_fits) fun _ _ _ _ _ _ us hl => match us, hl with | [_, _], _ => rfl
  have F_law_has_form := fun_mk (st := s__law_has_form) hl_law_has_form hc_law_has_form hk_law_has_form
  have b_law_has_form := F_law_has_form.binds (ps := P__law_has_form) fun _ _ _ _ _ _ us hl => match us, hl with | [_, _], _ => rfl
  have F_law_is_step := fun_mk (st := s__law_is_step) hl_law_is_step hc_law_is_step hk_law_is_step
  have b_law_is_step := F_law_is_step.binds (ps := P__law_is_step) fun _ _ _ _ _ _ us hl => match us, hl with | [_], _ => rfl
  have F_law_is_event := fun_mk (st := s__law_is_event) hl_law_is_event hc_law_is_event hk_law_is_event
  have b_law_is_event := F_law_is_event.binds (ps := P__law_is_event) fun _ _ _ _ _ _ us hl => match us, hl with | [_], _ => rfl
  have F_law_odd := fun_mk (st := s__law_odd) hl_law_odd hc_law_odd hk_law_odd
  have b_law_odd := F_law_odd.binds (ps := P__law_odd) fun _ _ _ _ _ _ us hl => match us, hl with | [_, _], _ => rfl
  have F_law_bent := fun_mk (st := s__law_bent) hl_law_bent hc_law_bent hk_law_bent
  have b_law_bent := F_law_bent.binds (ps := P__law_bent) fun _ _ _ _ _ _ us hl => match us, hl with | [_, _, _], _ => rfl
  have F_law_is_cell_twice := fun_mk (st := s__law_is_cell_twice) hl_law_is_cell_twice hc_law_is_cell_twice hk_law_is_cell_twice
  have b_law_is_cell_twice := F_law_is_cell_twice.binds (ps := P__law_is_cell_twice) fun _ _ _ _ _ _ us hl => match us, hl with | [_], _ => rfl
  have F_law_heard := fun_mk (st := s__law_heard) hl_law_heard hc_law_heard hk_law_heard
  have b_law_heard := F_law_heard.binds (ps := P__law_heard) fun _ _ _ _ _ _ us hl => match us, hl with | [_, _], _ => rfl
  have F_law_right := fun_mk (st := s__law_right) hl_law_right hc_law_right hk_law_right
  have b_law_right := F_law_right.binds (ps := P__law_right) fun _ _ _ _ _ _ us hl => match us, hl with | [_], _ => rfl
  have Flaw := fun_mk (st := s_law) hllaw hclaw hklaw
  refine ⟨PySem.W.fnOf "law" "law" (defArgs s_law) (defBody s_law) (defScope s_law) .none kVlaw dclaw pmlaw anlaw cdlaw ctlaw, fun s v => .of_eq rfl, fun base _ _ => ?_⟩
  have GT_SIDES : GTup K mg "SIDES" a_SIDES (["narrow", "wide"] : List Str) := ⟨PySem.W.mg_of X G hu0SIDES, tupW_sq hu1SIDES (by decide)⟩
  have GT_RULES : GTup K mg "RULES" a_RULES (["cut", "empty", "refuse"] : List Str) := ⟨PySem.W.mg_of X G hu0RULES, tupW_sq hu1RULES (by decide)⟩
  have GT_MANNERS : GTup K mg "MANNERS" a_MANNERS (["empty", "anew"] : List Str) := ⟨PySem.W.mg_of X G hu0MANNERS, tupW_sq hu1MANNERS (by decide)⟩
  have GT_NAMES : GTup K mg "NAMES" a_NAMES (["column", "program"] : List Str) := ⟨PySem.W.mg_of X G hu0NAMES, tupW_sq hu1NAMES (by decide)⟩
  have GT_COUNTS : GTup K mg "COUNTS" a_COUNTS (["edition", "row"] : List Str) := ⟨PySem.W.mg_of X G hu0COUNTS, tupW_sq hu1COUNTS (by decide)⟩
  have KT_STEP_FORMS : GTab K w mg "STEP_FORMS" a_STEP_FORMS t_STEP_FORMS := gtab_of (PySem.W.mg_of X G hv0STEP_FORMS) hv1STEP_FORMS hv2STEP_FORMS
  have KT_EVENT_FORMS : GTab K w mg "EVENT_FORMS" a_EVENT_FORMS t_EVENT_FORMS := gtab_of (PySem.W.mg_of X G hv0EVENT_FORMS) hv1EVENT_FORMS hv2EVENT_FORMS
  have TN : TxN mg t1 t2 := ⟨PySem.W.mg_of X G hgMOST, PySem.W.mg_of X G hgGREAT⟩
  have ek_BadPlan : ExcK K C_BadPlan := ⟨by unfold PySem.W.clsIn; rw [he1BadPlan]; rfl, he3BadPlan, he4BadPlan, he7BadPlan, heaBadPlan, heW4, heW5, hebBadPlan, he9BadPlan⟩
  have EX_BadPlan : ExT K mg CW C_BadPlan "BadPlan" "index" := { ox := ⟨⟨nmBadPlan, qBadPlan, NBadPlan, bsBadPlan, _, snBadPlan, subBadPlan, abBadPlan, colBadPlan, ddBadPlan, m0BadPlan, m1BadPlan, m2BadPlan, m3BadPlan, m5BadPlan, he1BadPlan, rfl⟩, he2BadPlan, he7BadPlan, he8BadPlan, he6BadPlan⟩, nf := hevBadPlanindex, me := PySem.W.exm_ref heW1 heW2 heW3 heeBadPlan, kc := if_pos (beq_self_eq_true _), kv := kit_sub (by decide +kernel) hedBadPlan, g := PySem.W.mg_of X G he0BadPlan }
  have cE_BadPlan : CalI l.prog w K mg base C_BadPlan "index" P_BadPlan___init__ := ⟨fBadPlan___init__, _, haBadPlan___init__, hefBadPlan, ok_BadPlan FBadPlan___init__ EX_BadPlan, bBadPlan___init__⟩
  have ek_BadRun : ExcK K C_BadRun := ⟨by unfold PySem.W.clsIn; rw [he1BadRun]; rfl, he3BadRun, he4BadRun, he7BadRun, heaBadRun, heW4, heW5, hebBadRun, he9BadRun⟩
  have EX_BadRun : ExT K mg CW C_BadRun "BadRun" "index" := { ox := ⟨⟨nmBadRun, qBadRun, NBadRun, bsBadRun, _, snBadRun, subBadRun, abBadRun, colBadRun, ddBadRun, m0BadRun, m1BadRun, m2BadRun, m3BadRun, m5BadRun, he1BadRun, rfl⟩, he2BadRun, he7BadRun, he8BadRun, he6BadRun⟩, nf := hevBadRunindex, me := PySem.W.exm_ref heW1 heW2 heW3 heeBadRun, kc := if_pos (beq_self_eq_true _), kv := kit_sub (by decide +kernel) hedBadRun, g := PySem.W.mg_of X G he0BadRun }
  have cE_BadRun : CalI l.prog w K mg base C_BadRun "index" P_BadRun___init__ := ⟨fBadRun___init__, _, haBadRun___init__, hefBadRun, ok_BadRun FBadRun___init__ EX_BadRun, bBadRun___init__⟩
  obtain ⟨κ, κ_BadPlan, κ_BadRun⟩ : ∃ κ : String → Addr, κ "BadPlan" = C_BadPlan ∧ κ "BadRun" = C_BadRun := ⟨fun n => if n = "BadPlan" then C_BadPlan else C_BadRun, if_pos rfl, if_neg (by decide)⟩
  have cLB__law_is_step : Cal l.prog w K mg base 1 "_law_is_step" P__law_is_step (spD ⟨K, κ⟩ 1 LB) := ⟨f_law_is_step, _, ok__law_is_step_bot F_law_is_step, b_law_is_step, PySem.W.mg_of X G ha_law_is_step, hk_law_is_step⟩
  have cLB__law_bent : Cal l.prog w K mg base 1 "_law_bent" P__law_bent (spD ⟨K, κ⟩ 3 LB) := ⟨f_law_bent, _, ok__law_bent_bot F_law_bent, b_law_bent, PySem.W.mg_of X G ha_law_bent, hk_law_bent⟩
  have cL_is_integer : Cal l.prog w K mg base 1 "is_integer" P_is_integer (spD ⟨K, κ⟩ 1 L_is_integer) := ⟨fis_integer, _, ok_is_integer Fis_integer T , bis_integer, PySem.W.mg_of X G hais_integer, hkis_integer⟩
  have cL_is_name : Cal l.prog w K mg base 1 "is_name" P_is_name (spD ⟨K, κ⟩ 1 L_is_name) := ⟨fis_name, _, ok_is_name Fis_name T TN , bis_name, PySem.W.mg_of X G hais_name, hkis_name⟩
  have cL_is_count : Cal l.prog w K mg base 2 "is_count" P_is_count (spD ⟨K, κ⟩ 1 L_is_count) := ⟨fis_count, _, ok_is_count Fis_count  cL_is_integer, bis_count, PySem.W.mg_of X G hais_count, hkis_count⟩
  have cL_is_plain_part : Cal l.prog w K mg base 3 "is_plain_part" P_is_plain_part (spD ⟨K, κ⟩ 2 L_is_plain_part) := ⟨fis_plain_part, _, ok_is_plain_part Fis_plain_part GT_SIDES GT_RULES GT_MANNERS cL_is_integer cL_is_count, bis_plain_part, PySem.W.mg_of X G hais_plain_part, hkis_plain_part⟩
  have cL_compares_itself : Cal l.prog w K mg base 1 "compares_itself" P_compares_itself (spD ⟨K, κ⟩ 1 L_compares_itself) := ⟨fcompares_itself, _, ok_compares_itself Fcompares_itself  , bcompares_itself, PySem.W.mg_of X G hacompares_itself, hkcompares_itself⟩
  have cL__first_word : Cal l.prog w K mg base 1 "_first_word" P__first_word (spD ⟨K, κ⟩ 1 L__first_word) := ⟨f_first_word, _, ok__first_word F_first_word T , b_first_word, PySem.W.mg_of X G ha_first_word, hk_first_word⟩
  have cL_step_form : Cal l.prog w K mg base 2 "step_form" P_step_form (spD ⟨K, κ⟩ 1 L_step_form) := ⟨fstep_form, _, ok_step_form Fstep_form KT_STEP_FORMS cL__first_word, bstep_form, PySem.W.mg_of X G hastep_form, hkstep_form⟩
  have cL_event_form : Cal l.prog w K mg base 2 "event_form" P_event_form (spD ⟨K, κ⟩ 1 L_event_form) := ⟨fevent_form, _, ok_event_form Fevent_form KT_EVENT_FORMS cL__first_word, bevent_form, PySem.W.mg_of X G haevent_form, hkevent_form⟩
  have cL__is_count : Cal l.prog w K mg base 3 "_is_count" P__is_count (spD ⟨K, κ⟩ 1 L__is_count) := ⟨f_is_count, _, ok__is_count F_is_count TN cL_is_count, b_is_count, PySem.W.mg_of X G ha_is_count, hk_is_count⟩
  have cL__is_part : Cal l.prog w K mg base 4 "_is_part" P__is_part (spD ⟨K, κ⟩ 2 L__is_part) := ⟨f_is_part, _, ok__is_part F_is_part GT_NAMES GT_COUNTS cL_is_name cL__is_count cL_is_plain_part, b_is_part, PySem.W.mg_of X G ha_is_part, hk_is_part⟩
  have cL__are_parts : Cal l.prog w K mg base 5 "_are_parts" P__are_parts (spD ⟨K, κ⟩ 2 L__are_parts) := ⟨f_are_parts, _, ok__are_parts F_are_parts T cL__is_part, b_are_parts, PySem.W.mg_of X G ha_are_parts, hk_are_parts⟩
  have cL_is_step_form : Cal l.prog w K mg base 6 "is_step_form" P_is_step_form (spD ⟨K, κ⟩ 1 L_is_step_form) := ⟨fis_step_form, _, ok_is_step_form Fis_step_form  cL_step_form cL__are_parts, bis_step_form, PySem.W.mg_of X G hais_step_form, hkis_step_form⟩
  have cL_is_event_form : Cal l.prog w K mg base 7 "is_event_form" P_is_event_form (spD ⟨K, κ⟩ 1 L_is_event_form) := ⟨fis_event_form, _, ok_is_event_form Fis_event_form T cL_event_form cL_is_step_form cL__are_parts cL_compares_itself, bis_event_form, PySem.W.mg_of X G hais_event_form, hkis_event_form⟩
  have cL_row_of_step : Cal l.prog w K mg base 1 "row_of_step" P_row_of_step (spD ⟨K, κ⟩ 1 L_row_of_step) := ⟨frow_of_step, _, ok_row_of_step Frow_of_step T , brow_of_step, PySem.W.mg_of X G harow_of_step, hkrow_of_step⟩
  have cL_row_of_event : Cal l.prog w K mg base 2 "row_of_event" P_row_of_event (spD ⟨K, κ⟩ 1 L_row_of_event) := ⟨frow_of_event, _, ok_row_of_event Frow_of_event  cL_row_of_step, brow_of_event, PySem.W.mg_of X G harow_of_event, hkrow_of_event⟩
  have cL_show_plan : CalX l.prog w K mg base 7 "show_plan" P_show_plan (spD ⟨K, κ⟩ 1 L_show_plan) := ⟨fshow_plan, _, ok_show_plan Fshow_plan T EX_BadPlan cE_BadPlan κ_BadPlan cL_is_step_form cL_row_of_step, bshow_plan, PySem.W.mg_of X G hashow_plan, hkshow_plan⟩
  have cL_show_run : CalX l.prog w K mg base 8 "show_run" P_show_run (spD ⟨K, κ⟩ 1 L_show_run) := ⟨fshow_run, _, ok_show_run Fshow_run T EX_BadRun cE_BadRun κ_BadRun cL_is_event_form cL_row_of_event, bshow_run, PySem.W.mg_of X G hashow_run, hkshow_run⟩
  have cL__law_pot_of : Cal l.prog w K mg base 1 "_law_pot_of" P__law_pot_of (spD ⟨K, κ⟩ 2 L__law_pot_of) := ⟨f_law_pot_of, _, ok__law_pot_of F_law_pot_of T , b_law_pot_of, PySem.W.mg_of X G ha_law_pot_of, hk_law_pot_of⟩
  have cL__law_take : Cal l.prog w K mg base 1 "_law_take" P__law_take (spD ⟨K, κ⟩ 2 L__law_take) := ⟨f_law_take, _, ok__law_take F_law_take T , b_law_take, PySem.W.mg_of X G ha_law_take, hk_law_take⟩
  have cL__law_of : Cal l.prog w K mg base 2 "_law_of" P__law_of (spD ⟨K, κ⟩ 2 L__law_of) := ⟨f_law_of, _, ok__law_of F_law_of T cL__law_take, b_law_of, PySem.W.mg_of X G ha_law_of, hk_law_of⟩
  have cL__law_name : Cal l.prog w K mg base 3 "_law_name" P__law_name (spD ⟨K, κ⟩ 1 L__law_name) := ⟨f_law_name, _, ok__law_name F_law_name  cL__law_of, b_law_name, PySem.W.mg_of X G ha_law_name, hk_law_name⟩
  have cL__law_step : Cal l.prog w K mg base 4 "_law_step" P__law_step (spD ⟨K, κ⟩ 1 L__law_step) := ⟨f_law_step, _, ok__law_step F_law_step  cL__law_of cL__law_name cL__law_take, b_law_step, PySem.W.mg_of X G ha_law_step, hk_law_step⟩
  have cL__law_event : Cal l.prog w K mg base 5 "_law_event" P__law_event (spD ⟨K, κ⟩ 1 L__law_event) := ⟨f_law_event, _, ok__law_event F_law_event  cL__law_of cL__law_name cL__law_step, b_law_event, PySem.W.mg_of X G ha_law_event, hk_law_event⟩
  have cL__law_is_name : Cal l.prog w K mg base 1 "_law_is_name" P__law_is_name (spD ⟨K, κ⟩ 1 L__law_is_name) := ⟨f_law_is_name, _, ok__law_is_name F_law_is_name T , b_law_is_name, PySem.W.mg_of X G ha_law_is_name, hk_law_is_name⟩
  have cL__law_is_number : Cal l.prog w K mg base 1 "_law_is_number" P__law_is_number (spD ⟨K, κ⟩ 1 L__law_is_number) := ⟨f_law_is_number, _, ok__law_is_number F_law_is_number T , b_law_is_number, PySem.W.mg_of X G ha_law_is_number, hk_law_is_number⟩
  have cL__law_fits0 : Cal l.prog w K mg base 2 "_law_fits" P__law_fits (spD ⟨K, κ⟩ 2 L__law_fits0) := ⟨f_law_fits, _, ok__law_fits0 F_law_fits T cL__law_is_name cL__law_is_number cLB__law_is_step, b_law_fits, PySem.W.mg_of X G ha_law_fits, hk_law_fits⟩
  have cL__law_has_form0 : Cal l.prog w K mg base 3 "_law_has_form" P__law_has_form (spD ⟨K, κ⟩ 2 L__law_has_form0) := ⟨f_law_has_form, _, ok__law_has_form0 F_law_has_form T cL__law_fits0, b_law_has_form, PySem.W.mg_of X G ha_law_has_form, hk_law_has_form⟩
  have cL__law_is_step0 : Cal l.prog w K mg base 4 "_law_is_step" P__law_is_step (spD ⟨K, κ⟩ 1 L__law_is_step0) := ⟨f_law_is_step, _, ok__law_is_step0 F_law_is_step  cL__law_has_form0, b_law_is_step, PySem.W.mg_of X G ha_law_is_step, hk_law_is_step⟩
  have cL__law_fits1 : Cal l.prog w K mg base 5 "_law_fits" P__law_fits (spD ⟨K, κ⟩ 2 L__law_fits1) := ⟨f_law_fits, _, ok__law_fits1 F_law_fits T cL__law_is_name cL__law_is_number cL__law_is_step0, b_law_fits, PySem.W.mg_of X G ha_law_fits, hk_law_fits⟩
  have cL__law_has_form1 : Cal l.prog w K mg base 6 "_law_has_form" P__law_has_form (spD ⟨K, κ⟩ 2 L__law_has_form1) := ⟨f_law_has_form, _, ok__law_has_form1 F_law_has_form T cL__law_fits1, b_law_has_form, PySem.W.mg_of X G ha_law_has_form, hk_law_has_form⟩
  have cL__law_is_event : Cal l.prog w K mg base 7 "_law_is_event" P__law_is_event (spD ⟨K, κ⟩ 1 L__law_is_event) := ⟨f_law_is_event, _, ok__law_is_event F_law_is_event  cL__law_has_form1, b_law_is_event, PySem.W.mg_of X G ha_law_is_event, hk_law_is_event⟩
  have cL__law_odd : Cal l.prog w K mg base 3 "_law_odd" P__law_odd (spD ⟨K, κ⟩ 2 L__law_odd) := ⟨f_law_odd, _, ok__law_odd F_law_odd T cL__law_of, b_law_odd, PySem.W.mg_of X G ha_law_odd, hk_law_odd⟩
  have cL__law_bent0 : Cal l.prog w K mg base 4 "_law_bent" P__law_bent (spD ⟨K, κ⟩ 3 L__law_bent0) := ⟨f_law_bent, _, ok__law_bent0 F_law_bent T cL__law_take cL__law_odd cLB__law_bent, b_law_bent, PySem.W.mg_of X G ha_law_bent, hk_law_bent⟩
  have cL__law_bent1 : Cal l.prog w K mg base 5 "_law_bent" P__law_bent (spD ⟨K, κ⟩ 3 L__law_bent1) := ⟨f_law_bent, _, ok__law_bent1 F_law_bent T cL__law_take cL__law_odd cL__law_bent0, b_law_bent, PySem.W.mg_of X G ha_law_bent, hk_law_bent⟩
  have cL__law_bent2 : Cal l.prog w K mg base 6 "_law_bent" P__law_bent (spD ⟨K, κ⟩ 3 L__law_bent2) := ⟨f_law_bent, _, ok__law_bent2 F_law_bent T cL__law_take cL__law_odd cL__law_bent1, b_law_bent, PySem.W.mg_of X G ha_law_bent, hk_law_bent⟩
  have cL__law_bent3 : Cal l.prog w K mg base 7 "_law_bent" P__law_bent (spD ⟨K, κ⟩ 3 L__law_bent3) := ⟨f_law_bent, _, ok__law_bent3 F_law_bent T cL__law_take cL__law_odd cL__law_bent2, b_law_bent, PySem.W.mg_of X G ha_law_bent, hk_law_bent⟩
  have cL__law_bent4 : Cal l.prog w K mg base 8 "_law_bent" P__law_bent (spD ⟨K, κ⟩ 3 L__law_bent4) := ⟨f_law_bent, _, ok__law_bent4 F_law_bent T cL__law_take cL__law_odd cL__law_bent3, b_law_bent, PySem.W.mg_of X G ha_law_bent, hk_law_bent⟩
  have cL__law_is_cell_twice : Cal l.prog w K mg base 1 "_law_is_cell_twice" P__law_is_cell_twice (spD ⟨K, κ⟩ 1 L__law_is_cell_twice) := ⟨f_law_is_cell_twice, _, ok__law_is_cell_twice F_law_is_cell_twice T , b_law_is_cell_twice, PySem.W.mg_of X G ha_law_is_cell_twice, hk_law_is_cell_twice⟩
  have cL__law_heard : Cal l.prog w K mg base 9 "_law_heard" P__law_heard (spD ⟨K, κ⟩ 2 L__law_heard) := ⟨f_law_heard, _, ok__law_heard F_law_heard T n_ve g_WidthError EX_BadPlan EX_BadRun ek_BadPlan ek_BadRun κ_BadPlan κ_BadRun cL_show_plan cL_show_run, b_law_heard, PySem.W.mg_of X G ha_law_heard, hk_law_heard⟩
  have cL__law_right : CalG l.prog w K mg base 10 "_law_right" P__law_right (spD ⟨K, κ⟩ 1 L__law_right) := ⟨f_law_right, _, ok__law_right F_law_right T cL__law_take cL__law_step cL__law_event cL__law_bent4 cL__law_is_cell_twice cL__law_is_step0 cL__law_is_event cL__law_heard, b_law_right, PySem.W.mg_of X G ha_law_right, hk_law_right⟩
  exact law_end (ok_law Flaw T cL__law_pot_of cL__law_right)
end Zd

open PySem PySem.W PyProof.Rows in
set_option maxRecDepth 100000 in
set_option maxHeartbeats 0 in
theorem PySem.Challenge.cw_widerkeys_k75_what_is_no_plan_or_run_holds : PySem.Challenge.rw_widerkeys_k75_what_is_no_plan_or_run.Holds := by
  w_on; o_law; k_head; (case hw => w_witness2)
  k_fill
  refine Zg.walkG (l := PySem.Challenge.rw_widerkeys_k75_what_is_no_plan_or_run) (sp := Zd.spLaw) (x := "_law_script") (k := 11) rfl (by decide) rfl ⟨rfl, by decide, by decide⟩ (fun w h Y => PySem.W.kIn_of Y) ?F (fun K H a ns hl hS => ⟨a, ns, rfl, hS, hl, fun _ => rfl⟩)
  case F =>
    intro w mg fa h KX G hmg
    refine' Zd.all_mk KX G hmg ?heW0 ?heW1 ?heW2 ?heW3 ?heW4 ?heW5 ?heW6 ?he0BadPlan ?he1BadPlan ?he2BadPlan ?he3BadPlan ?he4BadPlan ?he6BadPlan ?he7BadPlan ?he8BadPlan ?he9BadPlan ?heaBadPlan ?hebBadPlan ?hedBadPlan ?heeBadPlan ?hevBadPlanindex ?he0BadRun ?he1BadRun ?he2BadRun ?he3BadRun ?he4BadRun ?he6BadRun ?he7BadRun ?he8BadRun ?he9BadRun ?heaBadRun ?hebBadRun ?hedBadRun ?heeBadRun ?hevBadRunindex ?hgMOST ?hgGREAT ?hu0SIDES ?hu1SIDES ?hu0RULES ?hu1RULES ?hu0MANNERS ?hu1MANNERS ?hu0NAMES ?hu1NAMES ?hu0COUNTS ?hu1COUNTS ?hv0STEP_FORMS ?hv1STEP_FORMS ?hv2STEP_FORMS ?hv0EVENT_FORMS ?hv1EVENT_FORMS ?hv2EVENT_FORMS ?haBadPlan___init__ ?hiBadPlan___init__ ?hlBadPlan___init__ ?hcBadPlan___init__ ?hkBadPlan___init__ ?haBadRun___init__ ?hiBadRun___init__ ?hlBadRun___init__ ?hcBadRun___init__ ?hkBadRun___init__ ?hais_integer ?hlis_integer ?hcis_integer ?hkis_integer ?hais_name ?hlis_name ?hcis_name ?hkis_name ?hastep_form ?hlstep_form ?hcstep_form ?hkstep_form ?haevent_form ?hlevent_form ?hcevent_form ?hkevent_form ?hais_plain_part ?hlis_plain_part ?hcis_plain_part ?hkis_plain_part ?hais_count ?hlis_count ?hcis_count ?hkis_count ?hacompares_itself ?hlcompares_itself ?hccompares_itself ?hkcompares_itself ?ha_first_word ?hl_first_word ?hc_first_word ?hk_first_word ?hais_step_form ?hlis_step_form ?hcis_step_form ?hkis_step_form ?hais_event_form ?hlis_event_form ?hcis_event_form ?hkis_event_form ?harow_of_step ?hlrow_of_step ?hcrow_of_step ?hkrow_of_step ?harow_of_event ?hlrow_of_event ?hcrow_of_event ?hkrow_of_event ?ha_is_count ?hl_is_count ?hc_is_count ?hk_is_count ?ha_are_parts ?hl_are_parts ?hc_are_parts ?hk_are_parts ?ha_is_part ?hl_is_part ?hc_is_part ?hk_is_part ?hashow_plan ?hlshow_plan ?hcshow_plan ?hkshow_plan ?hashow_run ?hlshow_run ?hcshow_run ?hkshow_run ?ha_law_pot_of ?hl_law_pot_of ?hc_law_pot_of ?hk_law_pot_of ?ha_law_take ?hl_law_take ?hc_law_take ?hk_law_take ?ha_law_of ?hl_law_of ?hc_law_of ?hk_law_of ?ha_law_name ?hl_law_name ?hc_law_name ?hk_law_name ?ha_law_step ?hl_law_step ?hc_law_step ?hk_law_step ?ha_law_event ?hl_law_event ?hc_law_event ?hk_law_event ?ha_law_is_name ?hl_law_is_name ?hc_law_is_name ?hk_law_is_name ?ha_law_is_number ?hl_law_is_number ?hc_law_is_number ?hk_law_is_number ?ha_law_fits ?hl_law_fits ?hc_law_fits ?hk_law_fits ?ha_law_has_form ?hl_law_has_form ?hc_law_has_form ?hk_law_has_form ?ha_law_is_step ?hl_law_is_step ?hc_law_is_step ?hk_law_is_step ?ha_law_is_event ?hl_law_is_event ?hc_law_is_event ?hk_law_is_event ?ha_law_odd ?hl_law_odd ?hc_law_odd ?hk_law_odd ?ha_law_bent ?hl_law_bent ?hc_law_bent ?hk_law_bent ?ha_law_is_cell_twice ?hl_law_is_cell_twice ?hc_law_is_cell_twice ?hk_law_is_cell_twice ?ha_law_heard ?hl_law_heard ?hc_law_heard ?hk_law_heard ?ha_law_right ?hl_law_right ?hc_law_right ?hk_law_right ?halaw ?hllaw ?hclaw ?hklaw ?hefBadPlan ?hefBadRun ?hzint ?hzlen ?hzabs ?hzbool ?hztuple ?hzisinstance ?hzrange ?hzmax ?hzmin ?hzall ?hzrepr ?hzstr ?hzany ?hzlist ?hzzip ?hzenumerate
    (case heW0 => k_is)
    (case heW1 => k_is)
    (case heW2 => k_is)
    (case heW3 => k_is)
    (case heW4 => k_is)
    (case heW5 => k_is)
    (case heW6 => k_is)
    (case he0BadPlan => k_is)
    (case he1BadPlan => k_is)
    (case he2BadPlan => k_is)
    (case he3BadPlan => k_is)
    (case he4BadPlan => k_is)
    (case he6BadPlan => k_is)
    (case he7BadPlan => k_is)
    (case he8BadPlan => k_is)
    (case he9BadPlan => k_is)
    (case heaBadPlan => k_is)
    (case hebBadPlan => k_is)
    (case hedBadPlan => k_is)
    (case heeBadPlan => k_is)
    (case hevBadPlanindex => k_is)
    (case he0BadRun => k_is)
    (case he1BadRun => k_is)
    (case he2BadRun => k_is)
    (case he3BadRun => k_is)
    (case he4BadRun => k_is)
    (case he6BadRun => k_is)
    (case he7BadRun => k_is)
    (case he8BadRun => k_is)
    (case he9BadRun => k_is)
    (case heaBadRun => k_is)
    (case hebBadRun => k_is)
    (case hedBadRun => k_is)
    (case heeBadRun => k_is)
    (case hevBadRunindex => k_is)
    (case hgMOST => k_is)
    (case hgGREAT => k_is)
    (case hu0SIDES => k_is)
    (case hu1SIDES => first | rfl | kernel_rfl)
    (case hu0RULES => k_is)
    (case hu1RULES => first | rfl | kernel_rfl)
    (case hu0MANNERS => k_is)
    (case hu1MANNERS => first | rfl | kernel_rfl)
    (case hu0NAMES => k_is)
    (case hu1NAMES => first | rfl | kernel_rfl)
    (case hu0COUNTS => k_is)
    (case hu1COUNTS => first | rfl | kernel_rfl)
    (case hv0STEP_FORMS => k_is)
    (case hv1STEP_FORMS => first | rfl | kernel_rfl)
    (case hv2STEP_FORMS => first | rfl | kernel_rfl)
    (case hv0EVENT_FORMS => k_is)
    (case hv1EVENT_FORMS => first | rfl | kernel_rfl)
    (case hv2EVENT_FORMS => first | rfl | kernel_rfl)
    (case haBadPlan___init__ => k_is)
    (case hiBadPlan___init__ => k_is)
    (case hlBadPlan___init__ => k_is)
    (case hcBadPlan___init__ => k_is)
    (case hkBadPlan___init__ => k_is)
    (case haBadRun___init__ => k_is)
    (case hiBadRun___init__ => k_is)
    (case hlBadRun___init__ => k_is)
    (case hcBadRun___init__ => k_is)
    (case hkBadRun___init__ => k_is)
    (case hais_integer => k_is)
    (case hlis_integer => k_is)
    (case hcis_integer => k_is)
    (case hkis_integer => k_is)
    (case hais_name => k_is)
    (case hlis_name => k_is)
    (case hcis_name => k_is)
    (case hkis_name => k_is)
    (case hastep_form => k_is)
    (case hlstep_form => k_is)
    (case hcstep_form => k_is)
    (case hkstep_form => k_is)
    (case haevent_form => k_is)
    (case hlevent_form => k_is)
    (case hcevent_form => k_is)
    (case hkevent_form => k_is)
    (case hais_plain_part => k_is)
    (case hlis_plain_part => k_is)
    (case hcis_plain_part => k_is)
    (case hkis_plain_part => k_is)
    (case hais_count => k_is)
    (case hlis_count => k_is)
    (case hcis_count => k_is)
    (case hkis_count => k_is)
    (case hacompares_itself => k_is)
    (case hlcompares_itself => k_is)
    (case hccompares_itself => k_is)
    (case hkcompares_itself => k_is)
    (case ha_first_word => k_is)
    (case hl_first_word => k_is)
    (case hc_first_word => k_is)
    (case hk_first_word => k_is)
    (case hais_step_form => k_is)
    (case hlis_step_form => k_is)
    (case hcis_step_form => k_is)
    (case hkis_step_form => k_is)
    (case hais_event_form => k_is)
    (case hlis_event_form => k_is)
    (case hcis_event_form => k_is)
    (case hkis_event_form => k_is)
    (case harow_of_step => k_is)
    (case hlrow_of_step => k_is)
    (case hcrow_of_step => k_is)
    (case hkrow_of_step => k_is)
    (case harow_of_event => k_is)
    (case hlrow_of_event => k_is)
    (case hcrow_of_event => k_is)
    (case hkrow_of_event => k_is)
    (case ha_is_count => k_is)
    (case hl_is_count => k_is)
    (case hc_is_count => k_is)
    (case hk_is_count => k_is)
    (case ha_are_parts => k_is)
    (case hl_are_parts => k_is)
    (case hc_are_parts => k_is)
    (case hk_are_parts => k_is)
    (case ha_is_part => k_is)
    (case hl_is_part => k_is)
    (case hc_is_part => k_is)
    (case hk_is_part => k_is)
    (case hashow_plan => k_is)
    (case hlshow_plan => k_is)
    (case hcshow_plan => k_is)
    (case hkshow_plan => k_is)
    (case hashow_run => k_is)
    (case hlshow_run => k_is)
    (case hcshow_run => k_is)
    (case hkshow_run => k_is)
    (case ha_law_pot_of => k_is)
    (case hl_law_pot_of => k_is)
    (case hc_law_pot_of => k_is)
    (case hk_law_pot_of => k_is)
    (case ha_law_take => k_is)
    (case hl_law_take => k_is)
    (case hc_law_take => k_is)
    (case hk_law_take => k_is)
    (case ha_law_of => k_is)
    (case hl_law_of => k_is)
    (case hc_law_of => k_is)
    (case hk_law_of => k_is)
    (case ha_law_name => k_is)
    (case hl_law_name => k_is)
    (case hc_law_name => k_is)
    (case hk_law_name => k_is)
    (case ha_law_step => k_is)
    (case hl_law_step => k_is)
    (case hc_law_step => k_is)
    (case hk_law_step => k_is)
    (case ha_law_event => k_is)
    (case hl_law_event => k_is)
    (case hc_law_event => k_is)
    (case hk_law_event => k_is)
    (case ha_law_is_name => k_is)
    (case hl_law_is_name => k_is)
    (case hc_law_is_name => k_is)
    (case hk_law_is_name => k_is)
    (case ha_law_is_number => k_is)
    (case hl_law_is_number => k_is)
    (case hc_law_is_number => k_is)
    (case hk_law_is_number => k_is)
    (case ha_law_fits => k_is)
    (case hl_law_fits => k_is)
    (case hc_law_fits => k_is)
    (case hk_law_fits => k_is)
    (case ha_law_has_form => k_is)
    (case hl_law_has_form => k_is)
    (case hc_law_has_form => k_is)
    (case hk_law_has_form => k_is)
    (case ha_law_is_step => k_is)
    (case hl_law_is_step => k_is)
    (case hc_law_is_step => k_is)
    (case hk_law_is_step => k_is)
    (case ha_law_is_event => k_is)
    (case hl_law_is_event => k_is)
    (case hc_law_is_event => k_is)
    (case hk_law_is_event => k_is)
    (case ha_law_odd => k_is)
    (case hl_law_odd => k_is)
    (case hc_law_odd => k_is)
    (case hk_law_odd => k_is)
    (case ha_law_bent => k_is)
    (case hl_law_bent => k_is)
    (case hc_law_bent => k_is)
    (case hk_law_bent => k_is)
    (case ha_law_is_cell_twice => k_is)
    (case hl_law_is_cell_twice => k_is)
    (case hc_law_is_cell_twice => k_is)
    (case hk_law_is_cell_twice => k_is)
    (case ha_law_heard => k_is)
    (case hl_law_heard => k_is)
    (case hc_law_heard => k_is)
    (case hk_law_heard => k_is)
    (case ha_law_right => k_is)
    (case hl_law_right => k_is)
    (case hc_law_right => k_is)
    (case hk_law_right => k_is)
    (case halaw => k_is)
    (case hllaw => k_is)
    (case hclaw => k_is)
    (case hklaw => k_is)
    (case hefBadPlan => k_is)
    (case hefBadRun => k_is)
    (case hzint => k_is)
    (case hzlen => k_is)
    (case hzabs => k_is)
    (case hzbool => k_is)
    (case hztuple => k_is)
    (case hzisinstance => k_is)
    (case hzrange => k_is)
    (case hzmax => k_is)
    (case hzmin => k_is)
    (case hzall => k_is)
    (case hzrepr => k_is)
    (case hzstr => k_is)
    (case hzany => k_is)
    (case hzlist => k_is)
    (case hzzip => k_is)
    (case hzenumerate => k_is)
