import PyProof.Rows.All
import Wide.All
import OpenK.AllK
import Wide.FinOn
import PyProof.ReprRoads
import HandS.Base
import HandS.Call
import HandS.List
import HandS.Comp
import HandS.Ends
import HandS.Words
import HandS.ForMost
import HandS.Wide
import HandS.IsInst
import HandS.TupAny
import HandS.Zip
import HandS.Dict
import HandS.Codes
import HandS.Text
import HandS.Style
import HandS.TryOnly
import HandS.FStr
import HandS.StrMore
import HandS.Deep
import KE.DatumMoreOrd
import HandS.TupLe
import HandS.SlotsOwn
import HandS.More
import HandS.TupMul
import HandS.RaiseMore
import KE.GoesMore
import KE.GoesEnum
import HandS.ForExc
import HandS.ExcField
import HandS.ExcInit
import KE.KExcIs
import HandS.ExcIs
import HandS.HeadHook3
import PyProof.InstNe
import HandS.CallLocal
import HandS.DictComp
import HandS.WrittenGet
import OpenK.KMore
import PyProof.Rows.SortStr
import HandS.Head0
import HandS.Head1
import HandS.Head2
import HandS.HeadHook1
import HandS.HeadHook2
import HandS.HeadHook4
import PySem.Challenge.RW_widerkeys_k22_steps_by_hand
set_option Elab.async false
set_option linter.all false
set_option maxRecDepth 100000
set_option maxHeartbeats 8000000
/-! General rules: powers of great numbers, the text of data (repr), defs whose callers run no repr. -/
namespace Zg
open PySem PySem.Spec PyProof.Rows L2

/-! ### powers -/
def CPowZ (i j : Int) : Prop := 0 ≤ j ∧ (Builtin.Int.intBits i : Int) * j ≤ 2 ^ 27
theorem op_powZ {X : Cx} : OpR X (binaryOp .Pow) (rI CPowZ fun i j => .int (i ^ j.toNat)) :=
  opI fun _ _ _ _ _ _ _ hc q => pow_int hc.1 hc.2 q

/-! ### no repr runs around -/
/-- no repr runs around -/
def Calm (A : Around) : Prop := A.guards = some []
theorem Calm.deeper {A : Around} {env : Env} (h : Calm A) : Calm (A.deeper env) := h

/-- repr(x), x data at any depth -/
def rReprD (K : PySem.W.Frag) : List V → Hp → VK → Prop := fun xs H Q =>
  ∃ (x : V) (d : PyData), xs = [x] ∧ Dp K H x d ∧ d.showable = true ∧ d.hasDict = false ∧
    d.depth ≤ 64 ∧ d.shown.length ≤ sizeLine ∧ (∀ i, x = .int i → i.natAbs.log2 < 1920) ∧ Q (.str d.shown) H
theorem call_reprD {X : Cx} (hg : Calm X.A) (hu : X.A.units + 70 < cLine) : CallR X (.builtin "repr") (rReprD X.K) := by
  intro pins s σ H xs us Q I r h
  obtain ⟨x, d, rfl, hd, hs, hn, hdep, hsz, hi, q⟩ := h
  obtain ⟨u, rfl, rx⟩ := vals1 r
  obtain ⟨as, rd⟩ := Dp.reads I d x u hd rx
  have nod : d.hasDict = true → sysModules ∉ as := fun z => by rw [hn] at z; cases z
  cases hd with
  | non =>
    cases rx
    exact PySem.P.repr_of_none ⟨.str _, H, I.tok _, ⟨_, rfl⟩, q⟩
  | bl b =>
    cases rx
    refine PySem.P.repr_of_bool ⟨.str _, H, I.tok _, ⟨_, rfl⟩, ?_⟩
    cases b <;> exact q
  | int i =>
    obtain ⟨t, rfl⟩ := rx
    exact PySem.P.repr_of_int (hi i rfl) ⟨.str _, H, I.tok _, ⟨_, rfl⟩, q⟩
  | str z =>
    obtain ⟨t, rfl⟩ := rx
    exact PySem.P.repr_of_str ⟨.str _, H, I.tok _, ⟨_, rfl⟩, q⟩ hsz
  | lst h1 h2 =>
    cases rx
    refine repr_of_reads' rd hs nod hg (by omega) (fun _ _ e => e) (fun h' u tk hk => ?_) hsz
    exact ⟨.str _, H, I.kept (t' := tk) hk, ⟨_, rfl⟩, q⟩
  | tup h1 h2 =>
    cases rx
    refine repr_of_reads' rd hs nod hg (by omega) (fun _ _ e => e) (fun h' u tk hk => ?_) hsz
    exact ⟨.str _, H, I.kept (t' := tk) hk, ⟨_, rfl⟩, q⟩

/-! ### defs that are called where no repr runs -/
section
variable {P : Program} {w : World} {K : PySem.W.Frag} {mg : Str → Option Value} {base : Heap} {CX : CXT} {k : Nat} {f : Addr} {fd : FuncData} {ps : List Str} {sp : Sp}
/-- a def keeps its promise wherever it is called with no repr around -/
structure FnG (P : Program) (w : World) (K : PySem.W.Frag) (mg : Str → Option Value) (base : Heap) (CX : CXT)
    (k : Nat) (f : Addr) (fd : FuncData) (ps : List Str) (sp : Sp) : Prop where
  many : ∀ vs H Q E, sp vs H Q E → vs.length = ps.length
  goes : ∀ (A : Around), Calm A → ∀ (fr : List Env) (s : Shared) (H : Hp) (args : Args) (us : List Value) (vs : List V) (Q : VK) (E : XK),
    Room k A → Env0 P w K mg base A fr s H → BindsTo s fd args (ps.zip us) → Vals vs us → sp vs H Q E →
      codeAny (model P w) A (.call (.ref f) args) (CR CX fr P w H s Q E) s
theorem FnG.of (F : FnOk P w K mg base CX k f fd ps sp) : FnG P w K mg base CX k f fd ps sp :=
  ⟨F.len, fun A _ fr s H args us vs Q E r e b v h => F.run A fr s H args us vs Q E r e b v h⟩
theorem FnG.up {j : Nat} (F : FnG P w K mg base CX j f fd ps sp) (h : j ≤ k) : FnG P w K mg base CX k f fd ps sp :=
  ⟨F.many, fun A c fr s H args us vs Q E r => F.goes A c fr s H args us vs Q E (r.mono h)⟩

/-- a def of the text, by its body, with no repr around -/
theorem Fun_okG {x qual : Str} {st : Stmt} {N : List Str} (F : Fun K x qual st f fd) (S : FnScope N ps (defScope st)) (len : ∀ vs H Q E, sp vs H Q E → vs.length = ps.length)
    (hbody : ∀ (cd : Value) (A : Around) (fr : List Env) (s : Shared) (H : Hp) (vs : List V) (Q : VK) (E : XK), Calm A →
      Room k (A.deeper (envOfC qual (defScope st) s.heap.objs.size f cd)) → sp vs H Q E →
        ∃ t, PSs (cxOf CX P w K mg base N qual (defScope st) f cd A fr s H E).nox (defBody st) t ∧ t { nx := fun _ H' => Q .non H', rt := Q } (start N vs) H) :
    FnG P w K mg base CX (k + 1) f fd ps sp := by
  obtain ⟨oc, od, kw, doc, pm, an, cd, ct, osl, rfl, at_f, hcd⟩ := F.ex
  constructor
  · exact len
  intro A calm fr s H args us vs Q E room e0 binds rel hsp
  have hlen := len _ _ _ _ hsp
  have stays : ∀ b o, base.get? b = some o → s.heap.get? b = some o := fun b o e => (e0.bs b o e).1
  refine codeAny_call_function room.depth (e0.mod.kin.keeps stays _ _ at_f) rfl S.co S.gen rfl (PySem.W.codeRec_of (e0.mod.kin.keeps stays) hcd) (binds _ _ _ _ ?_)
  refine wpAny_newFunctionEnv_cells S.kind (fun ⟨n, v⟩ hy => ?_) fun env he s1 inC => ?_
  · cases S.par n (List.of_mem_zip hy).1 with
    | inl z => exact .inl z
    | inr z => exact .inr ⟨z, PySem.W.cellsFrom_some _ _ _ (.inl z)⟩
  subst he
  refine ⟨(e0.mod.nolimit.keeps stays).keeps inC.toInCall.keep, codeAny_func ?_⟩
  obtain ⟨t, ht, hq⟩ := hbody cd A fr s H vs Q E calm (room.deeper _) hsp
  refine wpAny_mono (ht.nox.run [] s1 (start N vs) H _ (inv_start (CX := CX) S room.hd e0 hlen rel inC) hq) (fun fl s' z => ?_) fun _ _ z => z
  match fl, z with
  | .ret _, ⟨v, _, H', J, rv, q⟩ => exact ⟨v, H', J.os, J.bare, J.base, J.hok, rv, q⟩
  | .next, ⟨_, H', J, q⟩ => exact ⟨.non, H', J.os, J.bare, J.base, J.hok, rfl, q⟩
  | .brk, ⟨_, _, _, q⟩ => exact q.elim
  | .cont, ⟨_, _, _, q⟩ => exact q.elim
end

section
variable {X : Cx} {CX : CXT} {k : Nat} {f : Addr} {fd : FuncData} {ps : List Str} {sp : Sp} {E : XK} {x : Str} {p pos : Pos} {e : Expr} {es : List Expr} {t : TA}
/-- f(e, ..) where no repr runs -/
theorem pe_callG (c : Calm X.A) (F : FnG X.prog X.w X.K X.mg X.base CX k f fd ps sp) (hr : Room k X.A) (hg : Gl X x) (hm : X.mg x = some (.ref f)) (hk : PySem.W.keepIn X.K (.ref f) = true)
    (hb : Binds X.K fd ps []) (hx : Passes CX X E) (ha : PA X (e :: es) t) (hdb : (x == ("__debug__" : Str)) = false := by decide)
    (he : starEach (e :: es) X.env = (false, eval e X.env) :: starEach es X.env := by rfl) (hpl : (backTo pos (starEach es X.env)).any (·.1) = false := by rfl) :
    PE X (.Call (.Name x p) (e :: es) [] pos) (tCall sp [] E t) := by
  constructor
  intro pins s σ H Q I h
  refine wpAny_Call_Name_kw (ld_glob I hg hm (PySem.W.callWith_K (h₀ := X.base) I.ok.mod.kin hk (thn (ha.run pos pins s σ H _ I h) fun us s1 z => ?_) he hpl) hdb)
  obtain ⟨vs, H1, J, rel, q⟩ := z
  have q' : sp vs H1 Q E := by rw [← List.append_nil vs]; exact q
  have hl : (us ++ []).length = ps.length := by rw [List.append_nil, ← rel.length]; exact F.many _ _ _ _ q'
  have b := hb s1 us J.kIn hl
  rw [List.append_nil] at b
  refine ⟨J.kIn, wpAny_call (codeAny_mono (F.goes X.A c X.stack s1 H1 ⟨us, []⟩ us vs Q E hr J.env0 b rel q') fun r s2 z => ?_)⟩
  match r, z with
  | .error _, z => exact hx pins σ H1 s1 _ s2 J z
  | .ok (.ret _), z => exact J.after z
  | .ok .next, z => exact z.elim
  | .ok .brk, z => exact z.elim
  | .ok .cont, z => exact z.elim
end

/-! ### the law's own call -/
/-- the script alone is tracked, or nothing -/
def track (a : Addr) (o : HO) : Hp := fun b => if b = a then some o else none
theorem track_at {a : Addr} {o : HO} : track a o a = some o := if_pos rfl
theorem track_off {a b : Addr} {o : HO} (h : b ≠ a) : track a o b = none := if_neg h

theorem lawG {P : Program} {w : World} {K : PySem.W.Frag} {mg mb : Str → Option Value} {k : Nat} {fa a : Addr} {fd : FuncData} {x : Str} {sp : Sp} {s : Shared} {us : List Value} {ns : List Int}
    (kin : K.In s.heap) (gl : s.heap.Ns mainGlobals mg) (bl : s.heap.Ns builtinsNs mb) (bb : ∀ x : Str, x ≠ "__name__" → mb x = bootBuiltins x) (lim : s.heap.NoLimit) (gens : s.gens = #[])
    (ha : s.heap.get? a = some { cls := .type "list", data := .seq us.toArray }) (whole : IntsAre us ns) (line : ns.length ≤ sizeLine) (room : Room k callerA)
    (F : ∀ base : Heap, K.In base → base.Ns mainGlobals mg → FnG P w K mg base CX0 k fa fd [x] sp)
    (bind : ∀ (s : Shared) (u : Value), BindsTo s fd ⟨[u], []⟩ [(x, u)])
    (hsp : ∀ H : Hp, SqL K H a (ns.map V.int) → sp [.ref a] H (fun v _ => v = .bl true) fun _ _ _ => False) :
    codeAny (model P w) callerA (.call (.ref fa) ⟨[.ref a], []⟩) (fun r s' => r = .ok (.ret (.bool true)) ∧ OldK s.heap s'.heap ∧ s'.os = s.os ∧ AllBare s'.gens) s := by
  have rel := vals_ints whole
  have size := whole.length
  -- H: the script, or nothing; what H does not track is in the base
  have go : ∀ H : Hp, SqL K H a (ns.map V.int) → HOk P w H s.heap → (∀ b u, H b = some u → b = a ∧ K.lookup a = none ∧ ∃ o xs, u = .frz o (.lst xs)) →
      codeAny (model P w) callerA (.call (.ref fa) ⟨[.ref a], []⟩) (fun r s' => r = .ok (.ret (.bool true)) ∧ OldK s.heap s'.heap ∧ s'.os = s.os ∧ AllBare s'.gens) s := by
    intro H hS hok only
    have free : ∀ {b : Addr}, b ≠ a → H b = none := fun {b} hb => by
      cases q : H b with
      | none => rfl
      | some u => exact absurd (only b u q).1 hb
    have notDict : ∀ {b : Addr} {o : Obj} {es : Array DictEntry} {n : Nat}, s.heap.get? b = some o → o.data = .dict es n → b ≠ a := fun {b o es n} e d z => by
      subst z
      rw [ha] at e
      have e' := Option.some.inj e
      subst e'
      cases d
    have keepNs : ∀ {b : Addr} {m : Str → Option Value}, s.heap.Ns b m → (hidT s.heap H).Ns b m := fun {b m} z => by
      obtain ⟨o, es, n, e, d, r⟩ := z
      exact ⟨o, es, n, hidT_get e (free (notDict e d)), d, r⟩
    have kinB : K.In (hidT s.heap H) := fun b o e => hidT_get (kin b o e) (by
      cases q : H b with
      | none => rfl
      | some u =>
        obtain ⟨z, no, _⟩ := only b u q
        rw [z, no] at e
        cases e)
    have limB : (hidT s.heap H).NoLimit := by
      obtain ⟨m, h1, h2⟩ := lim
      exact ⟨m, keepNs h1, h2⟩
    have e0 : Env0 P w K mg (hidT s.heap H) callerA [] s H :=
      { frames := rfl, mod := ⟨kinB, keepNs gl, ⟨mb, keepNs bl, bb⟩, limB⟩, bs := fun b o e => of_hidT e, bsz := Nat.le_of_eq (hidT_size _ _), funs := trivial,
        frf := fun b hb => (List.not_mem_nil (show b ∈ ([] : List Addr) from hb)).elim, hok := hok, bare := .of_eq gens }
    refine codeAny_mono ((F _ kinB (keepNs gl)).goes callerA rfl [] s H ⟨[.ref a], []⟩ [.ref a] [.ref a] _ _ room e0 (bind s (.ref a)) (.cons rfl .nil) (hsp H hS)) fun r s' z => ?_
    match r, z with
    | .error _, z => exact False.elim z
    | .ok .next, z => exact False.elim z
    | .ok .brk, z => exact False.elim z
    | .ok .cont, z => exact False.elim z
    | .ok (.ret u), z =>
      obtain ⟨v, H', os, bare, un, hok', rv, q⟩ := z
      have q' : v = .bl true := q
      subst q'
      obtain rfl : u = Value.bool true := rv
      refine ⟨rfl, OldK.of_keep fun b o e => ?_, os, bare⟩
      cases q : H b with
      | none => exact un.keep b o e q (List.not_mem_nil) (List.not_mem_nil)
      | some u =>
        obtain ⟨_, _, ob, xs, eu⟩ := only b u q
        subst eu
        have h1 := (hok b _ q).1
        have h2 := (hok' b _ (un.frzs b ob _ q)).1
        rw [e] at h1
        rw [h2, ← Option.some.inj h1]
  cases hk : K.lookup a with
  | none =>
    refine go (track a (.frz { cls := .type "list", data := .seq us.toArray } (.lst (ns.map V.int)))) (.inl (.inr ⟨_, track_at⟩)) (fun b u z => ?_) fun b u z => ?_
    · by_cases hb : b = a
      · subst hb
        have z' := track_at.symm.trans z
        cases z'
        exact ⟨ha, by rw [List.length_map]; exact line, us, _, rel, ha⟩
      · rw [track_off hb] at z
        cases z
    · by_cases hb : b = a
      · subst hb
        have z' := track_at.symm.trans z
        cases z'
        exact ⟨rfl, hk, _, _, rfl⟩
      · rw [track_off hb] at z
        cases z
  | some o =>
    have e := kin a o hk
    rw [ha] at e
    have e' := Option.some.inj e
    subst e'
    have small : us.toArray.size ≤ sizeLine := by rw [List.size_toArray, size]; exact line
    refine go (fun _ => none) (.inr ⟨_, us.toArray, _, hk, rfl, rfl, rfl, small, by simpa using rel⟩) (fun b u z => ?_) fun b u z => ?_
    · have z' : (none : Option HO) = some u := z
      cases z'
    · have z' : (none : Option HO) = some u := z
      cases z'

/-- what k_head leaves, from the law's promise -/
theorem walkG {l : PySem.W.OpenLaw} {n k : Nat} {q : Program} {loose : List Str} {XP : (Str → Option Value) → Heap → Prop} {YP : World → Heap → Prop} {d : DefRec} {K : Params → PySem.W.Frag} {sp : PySem.W.Frag → Sp} {x : Str}
    (most : l.most = some n) (line : n ≤ sizeLine) (nodef : d.params.defaults = []) (room : Room k callerA) (hY : ∀ (w : World) (h : Heap), YP w h → (K w.params).In h)
    (F : ∀ (w : World) (mg : Str → Option Value) (fa : Addr) (h : Heap), (K w.params).In h → h.Ns mainGlobals mg → mg d.name = some (.ref fa) →
      ∃ fd : FuncData, (∀ (s : Shared) (u : Value), BindsTo s fd ⟨[u], []⟩ [(x, u)]) ∧
        ∀ base : Heap, (K w.params).In base → base.Ns mainGlobals mg → FnG l.prog w (K w.params) mg base CX0 k fa fd [x] (sp (K w.params)))
    (hsp : ∀ (K : PySem.W.Frag) (H : Hp) (a : Addr) (ns : List Int), ns.length ≤ n → SqL K H a (ns.map V.int) → sp K [.ref a] H (fun v _ => v = .bl true) fun _ _ _ => False) :
    PySem.W.WalkO q loose XP YP l.row.toRowW d [] (fun f vs => PySem.call f vs) := by
  refine Att.attach_call most nodef fun w s0 s1 mg mb fa o pm cd doc a vs ns G Y _ _ _ named obj whole few gens => ?_
  have kin := hY w _ Y
  obtain ⟨fd, bind, all⟩ := F w mg fa _ kin G.T.g named
  exact lawG kin G.T.g G.T.b G.T.builtins G.T.nolimit gens obj whole (Nat.le_trans few line) room all bind fun H hS => hsp _ H a ns few hS
end Zg

namespace Zd
open PySem PySem.Spec PyProof.Rows L2

/-! ### values as trees -/
inductive Dat where
  | non | bl (b : Bool) | int (i : Int) | str (x : Str)
  | tup (ds : List Dat) | lst (ds : List Dat)
  | dic (ks : List Key) (ds : List Dat)
  | obj (c : String) (fs : List Str) (ds : List Dat)
  | loc (n : Nat)
  | ty (n : String) | cls (c : String)
  | scr (ns : List Int)
/-- what is known of the places: the written part, the classes' addresses -/
structure Cz where
  K : PySem.W.Frag
  κ : String → Addr
/-- the places that may be written: shared ones by number, the frame's own ones -/
structure Pl where
  α : List Addr
  ω : List Addr
  γ : List Addr
def Pl.has (p : Pl) (a : Addr) : Prop := a ∈ p.α ∨ a ∈ p.ω ∨ a ∈ p.γ
def LstAt (Z : Cz) (H : Hp) (p : Pl) (a : Addr) (vs : List V) : Prop := H a = some (.lst vs) ∧ ¬ p.has a
def TupAt (Z : Cz) (H : Hp) (p : Pl) (a : Addr) (vs : List V) : Prop := (Rd H a (.tup vs) ∧ ¬ p.has a) ∨ ∀ H', SqT Z.K H' a vs
def DicAt (H : Hp) (p : Pl) (a : Addr) (kvs : List (Key × V)) : Prop := H a = some (.dK kvs) ∧ ¬ p.has a
def ObjAt (H : Hp) (p : Pl) (a C : Addr) (fs : List (Str × V)) : Prop := (∃ dx, H a = some (.ins C dx fs)) ∧ ¬ p.has a
mutual
def IsD (Z : Cz) (H : Hp) (p : Pl) (v : V) : Dat → Prop
  | .non => v = .non
  | .bl b => v = .bl b
  | .int i => v = .int i
  | .str x => v = .str x
  | .ty n => v = .ty n
  | .cls c => v = .ref (Z.κ c)
  | .scr ns => ∃ a, v = .ref a ∧ ((Rd H a (.lst (ns.map V.int)) ∧ ¬ p.has a) ∨ ∀ H', SqL Z.K H' a (ns.map V.int))
  | .tup ds => ∃ a vs, v = .ref a ∧ TupAt Z H p a vs ∧ IsDs Z H p vs ds
  | .lst ds => ∃ a vs, v = .ref a ∧ LstAt Z H p a vs ∧ IsDs Z H p vs ds
  | .dic ks ds => ∃ a vs, v = .ref a ∧ DicAt H p a (ks.zip vs) ∧ ks.length = vs.length ∧ IsDs Z H p vs ds
  | .obj c fs ds => ∃ a vs, v = .ref a ∧ ObjAt H p a (Z.κ c) (fs.zip vs) ∧ fs.length = vs.length ∧ IsDs Z H p vs ds
  | .loc n => ∃ a, v = .ref a ∧ p.α[n]? = some a
def IsDs (Z : Cz) (H : Hp) (p : Pl) (vs : List V) : List Dat → Prop
  | [] => vs = []
  | d :: ds => ∃ v r, vs = v :: r ∧ IsD Z H p v d ∧ IsDs Z H p r ds
end
/-- a container whose top may be the frame's own, its items may not -/
def IsW (Z : Cz) (H : Hp) (p : Pl) (v : V) : Dat → Prop
  | .lst ds => ∃ a vs, v = .ref a ∧ (H a = some (.lst vs) ∧ a ∉ p.α ∧ a ∉ p.γ) ∧ IsDs Z H p vs ds
  | .dic ks ds => ∃ a vs, v = .ref a ∧ (H a = some (.dK (ks.zip vs)) ∧ a ∉ p.α ∧ a ∉ p.γ) ∧ ks.length = vs.length ∧ IsDs Z H p vs ds
  | .obj c fs ds => ∃ a vs, v = .ref a ∧ ((∃ dx, H a = some (.ins (Z.κ c) dx (fs.zip vs))) ∧ a ∉ p.α ∧ a ∉ p.γ) ∧ fs.length = vs.length ∧ IsDs Z H p vs ds
  | d => IsD Z H p v d
/-- from here to there: places come, what may not be written stays -/
structure Ext (H : Hp) (p : Pl) (H' : Hp) (p' : Pl) : Prop where
  α : ∃ β, p'.α = p.α ++ β ∧ ∀ b ∈ β, H b = none
  ω : ∃ β, p'.ω = p.ω ++ β ∧ ∀ b ∈ β, H b = none
  γ : p'.γ = p.γ
  k : ∀ a o, H a = some o → a ∉ p.α → a ∉ p.ω → H' a = some o
  t : ∀ a, H a ≠ none → H' a ≠ none
/-- the same of an expression: the own places stay, too -/
structure ExtE (H : Hp) (p : Pl) (H' : Hp) (p' : Pl) : Prop where
  α : ∃ β, p'.α = p.α ++ β ∧ ∀ b ∈ β, H b = none
  ω : p'.ω = p.ω
  γ : p'.γ = p.γ
  k : ∀ a o, H a = some o → a ∉ p.α → H' a = some o
  t : ∀ a, H a ≠ none → H' a ≠ none
theorem ExtE.s {H H' : Hp} {p p' : Pl} (e : ExtE H p H' p') : Ext H p H' p' := ⟨e.α, ⟨[], by rw [e.ω, List.append_nil], by simp⟩, e.γ, fun a o h n _ => e.k a o h n, e.t⟩
theorem ExtE.refl {H : Hp} {p : Pl} : ExtE H p H p := ⟨⟨[], by simp⟩, rfl, rfl, fun _ _ h _ => h, fun _ h => h⟩
theorem Ext.refl {H : Hp} {p : Pl} : Ext H p H p := ExtE.refl.s
theorem Ext.has {H H' : Hp} {p p' : Pl} (e : Ext H p H' p') {a : Addr} {o : HO} (h : H a = some o) (n : ¬ p.has a) : ¬ p'.has a := by
  obtain ⟨β, e1, f1⟩ := e.α
  obtain ⟨γ, e2, f2⟩ := e.ω
  rintro (q | q | q)
  · rw [e1] at q
    rcases List.mem_append.mp q with q | q
    · exact n (.inl q)
    · rw [f1 a q] at h; cases h
  · rw [e2] at q
    rcases List.mem_append.mp q with q | q
    · exact n (.inr (.inl q))
    · rw [f2 a q] at h; cases h
  · rw [e.γ] at q
    exact n (.inr (.inr q))
theorem back_of {H H1 : Hp} (t : ∀ a, H a ≠ none → H1 a ≠ none) {b : Addr} (q : H1 b = none) : H b = none := by
  cases z : H b with
  | none => rfl
  | some o => exact absurd q (t b (by rw [z]; exact nofun))
theorem fresh_app {H H1 : Hp} (t : ∀ a, H a ≠ none → H1 a ≠ none) {α α1 α2 : List Addr} (h : ∃ β, α1 = α ++ β ∧ ∀ b ∈ β, H b = none) (g : ∃ β, α2 = α1 ++ β ∧ ∀ b ∈ β, H1 b = none) : ∃ β, α2 = α ++ β ∧ ∀ b ∈ β, H b = none := by
  obtain ⟨β, e1, f1⟩ := h
  obtain ⟨γ, e2, f2⟩ := g
  refine ⟨β ++ γ, by rw [e2, e1, List.append_assoc], fun b q => ?_⟩
  rcases List.mem_append.mp q with q | q
  · exact f1 b q
  · exact back_of t (f2 b q)
theorem not_fresh {H : Hp} {α α1 : List Addr} (h : ∃ β, α1 = α ++ β ∧ ∀ b ∈ β, H b = none) {a : Addr} {o : HO} (e : H a = some o) (n : a ∉ α) : a ∉ α1 := by
  obtain ⟨β, e1, f1⟩ := h
  intro q
  rw [e1] at q
  rcases List.mem_append.mp q with q | q
  · exact n q
  · rw [f1 a q] at e; cases e
theorem Ext.trans {H H1 H2 : Hp} {p p1 p2 : Pl} (e : Ext H p H1 p1) (f : Ext H1 p1 H2 p2) : Ext H p H2 p2 :=
  ⟨fresh_app e.t e.α f.α, fresh_app e.t e.ω f.ω, f.γ.trans e.γ, fun a o h n m => f.k a o (e.k a o h n m) (not_fresh e.α h n) (not_fresh e.ω h m), fun a h => f.t a (e.t a h)⟩
theorem ExtE.trans {H H1 H2 : Hp} {p p1 p2 : Pl} (e : ExtE H p H1 p1) (f : ExtE H1 p1 H2 p2) : ExtE H p H2 p2 :=
  ⟨fresh_app e.t e.α f.α, f.ω.trans e.ω, f.γ.trans e.γ, fun a o h n => f.k a o (e.k a o h n) (not_fresh e.α h n), fun a h => f.t a (e.t a h)⟩
theorem ExtE.same {H H' : Hp} {p : Pl} (s : Same H H') : ExtE H p H' p :=
  ⟨⟨[], by simp⟩, rfl, rfl, fun b u e _ => s b u e, fun b n => by
    cases q : H b with
    | none => exact absurd q n
    | some o => rw [s b o q]; exact nofun⟩
theorem same_new {H : Hp} {p : Addr} {o : HO} (h : H p = none) : Same H (upd H p o) := fun b u e => (upd_ne (ne_of_none e h)).trans e
theorem ExtE.new {H : Hp} {p : Pl} {a : Addr} {o : HO} (h : H a = none) : ExtE H p (upd H a o) p := .same (same_new h)
theorem Ext.keep {H H' : Hp} {p p' : Pl} (e : Ext H p H' p') {a : Addr} {o : HO} (h : H a = some o) (n : ¬ p.has a) : H' a = some o := e.k a o h (fun q => n (.inl q)) fun q => n (.inr (.inl q))
theorem Rd.ext {H H' : Hp} {p p' : Pl} (e : Ext H p H' p') {a : Addr} {u : HO} (r : Rd H a u) (n : ¬ p.has a) : Rd H' a u ∧ ¬ p'.has a := by
  rcases r with r | ⟨o, r⟩
  · exact ⟨.inl (e.keep r n), e.has r n⟩
  · exact ⟨.inr ⟨o, e.keep r n⟩, e.has r n⟩
section
variable {Z : Cz} {H H' : Hp} {p p' : Pl}
theorem LstAt.ext (e : Ext H p H' p') {a : Addr} {vs : List V} (h : LstAt Z H p a vs) : LstAt Z H' p' a vs := ⟨e.keep h.1 h.2, e.has h.1 h.2⟩
theorem TupAt.ext (e : Ext H p H' p') {a : Addr} {vs : List V} (h : TupAt Z H p a vs) : TupAt Z H' p' a vs := h.imp (fun q => Rd.ext e q.1 q.2) id
theorem LstAt.sq {a : Addr} {vs : List V} (h : LstAt Z H p a vs) : SqL Z.K H a vs := SqL.of h.1
theorem TupAt.sq {a : Addr} {vs : List V} (h : TupAt Z H p a vs) : SqT Z.K H a vs := h.elim (fun q => .inl q.1) fun q => q H
mutual
theorem IsD.ext (e : Ext H p H' p') : ∀ (d : Dat) {v : V}, IsD Z H p v d → IsD Z H' p' v d
  | .non, _, h => by unfold IsD at h ⊢; exact h
  | .bl b, _, h => by unfold IsD at h ⊢; exact h
  | .int i, _, h => by unfold IsD at h ⊢; exact h
  | .str x, _, h => by unfold IsD at h ⊢; exact h
  | .ty n, _, h => by unfold IsD at h ⊢; exact h
  | .cls c, _, h => by unfold IsD at h ⊢; exact h
  | .scr ns, _, h => by
    unfold IsD at h ⊢
    obtain ⟨a, rfl, h1⟩ := h
    exact ⟨a, rfl, h1.imp (fun q => Rd.ext e q.1 q.2) id⟩
  | .tup ds, _, h => by
    unfold IsD at h ⊢
    obtain ⟨a, vs, rfl, h1, h2⟩ := h
    exact ⟨a, vs, rfl, h1.ext e, IsDs.ext e ds h2⟩
  | .lst ds, _, h => by
    unfold IsD at h ⊢
    obtain ⟨a, vs, rfl, h1, h2⟩ := h
    exact ⟨a, vs, rfl, h1.ext e, IsDs.ext e ds h2⟩
  | .dic ks ds, _, h => by
    unfold IsD at h ⊢
    obtain ⟨a, vs, rfl, h1, hl, h2⟩ := h
    exact ⟨a, vs, rfl, ⟨e.keep h1.1 h1.2, e.has h1.1 h1.2⟩, hl, IsDs.ext e ds h2⟩
  | .obj c fs ds, _, h => by
    unfold IsD at h ⊢
    obtain ⟨a, vs, rfl, ⟨⟨dx, h1⟩, n⟩, hl, h2⟩ := h
    exact ⟨a, vs, rfl, ⟨⟨dx, e.keep h1 n⟩, e.has h1 n⟩, hl, IsDs.ext e ds h2⟩
  | .loc n, _, h => by
    unfold IsD at h ⊢
    obtain ⟨a, rfl, h1⟩ := h
    obtain ⟨β, e1, _⟩ := e.α
    refine ⟨a, rfl, ?_⟩
    rw [e1, List.getElem?_append_left (List.getElem?_eq_some_iff.mp h1).1]
    exact h1
theorem IsDs.ext (e : Ext H p H' p') : ∀ (ds : List Dat) {vs : List V}, IsDs Z H p vs ds → IsDs Z H' p' vs ds
  | [], _, h => by unfold IsDs at h ⊢; exact h
  | d :: ds, _, h => by
    unfold IsDs at h ⊢
    obtain ⟨v, r, rfl, h1, h2⟩ := h
    exact ⟨v, r, rfl, IsD.ext e d h1, IsDs.ext e ds h2⟩
end
theorem isD_non {v : V} : IsD Z H p v .non ↔ v = .non := by unfold IsD; rfl
theorem isD_bl {v : V} {b : Bool} : IsD Z H p v (.bl b) ↔ v = .bl b := by unfold IsD; rfl
theorem isD_int {v : V} {i : Int} : IsD Z H p v (.int i) ↔ v = .int i := by unfold IsD; rfl
theorem isD_str {v : V} {x : Str} : IsD Z H p v (.str x) ↔ v = .str x := by unfold IsD; rfl
theorem isD_ty {v : V} {x : String} : IsD Z H p v (.ty x) ↔ v = .ty x := by unfold IsD; rfl
theorem isD_tup {v : V} {ds : List Dat} : IsD Z H p v (.tup ds) ↔ ∃ a vs, v = .ref a ∧ TupAt Z H p a vs ∧ IsDs Z H p vs ds := by
  constructor <;> (intro h; unfold IsD at *; exact h)
theorem isD_lst {v : V} {ds : List Dat} : IsD Z H p v (.lst ds) ↔ ∃ a vs, v = .ref a ∧ LstAt Z H p a vs ∧ IsDs Z H p vs ds := by
  constructor <;> (intro h; unfold IsD at *; exact h)
theorem isD_dic {v : V} {ks : List Key} {ds : List Dat} : IsD Z H p v (.dic ks ds) ↔ ∃ a vs, v = .ref a ∧ DicAt H p a (ks.zip vs) ∧ ks.length = vs.length ∧ IsDs Z H p vs ds := by
  constructor <;> (intro h; unfold IsD at *; exact h)
theorem isD_obj {v : V} {c : String} {fs : List Str} {ds : List Dat} : IsD Z H p v (.obj c fs ds) ↔ ∃ a vs, v = .ref a ∧ ObjAt H p a (Z.κ c) (fs.zip vs) ∧ fs.length = vs.length ∧ IsDs Z H p vs ds := by
  constructor <;> (intro h; unfold IsD at *; exact h)
theorem isD_loc {v : V} {n : Nat} : IsD Z H p v (.loc n) ↔ ∃ a, v = .ref a ∧ p.α[n]? = some a := by
  constructor <;> (intro h; unfold IsD at *; exact h)
theorem isD_scr {v : V} {ns : List Int} : IsD Z H p v (.scr ns) ↔ ∃ a, v = .ref a ∧ ((Rd H a (.lst (ns.map V.int)) ∧ ¬ p.has a) ∨ ∀ H', SqL Z.K H' a (ns.map V.int)) := by
  constructor <;> (intro h; unfold IsD at *; exact h)
theorem isDs_nil {vs : List V} : IsDs Z H p vs [] ↔ vs = [] := by unfold IsDs; rfl
theorem isDs_cons {vs : List V} {d : Dat} {ds : List Dat} : IsDs Z H p vs (d :: ds) ↔ ∃ v r, vs = v :: r ∧ IsD Z H p v d ∧ IsDs Z H p r ds := by
  rw [IsDs]
theorem IsDs.len : ∀ {ds : List Dat} {vs : List V}, IsDs Z H p vs ds → vs.length = ds.length
  | [], _, h => by rw [isDs_nil.mp h]; rfl
  | d :: ds, _, h => by
    obtain ⟨v, r, rfl, _, h2⟩ := isDs_cons.mp h
    rw [List.length_cons, List.length_cons, IsDs.len h2]
theorem IsDs.get : ∀ {ds : List Dat} {vs : List V} {i : Nat} {d : Dat}, IsDs Z H p vs ds → ds[i]? = some d → ∃ v, vs[i]? = some v ∧ IsD Z H p v d
  | [], _, i, d, _, e => by simp at e
  | c :: ds, _, 0, d, h, e => by
    obtain ⟨v, r, rfl, h1, _⟩ := isDs_cons.mp h
    simp at e
    subst e
    exact ⟨v, rfl, h1⟩
  | c :: ds, _, i + 1, d, h, e => by
    obtain ⟨v, r, rfl, _, h2⟩ := isDs_cons.mp h
    obtain ⟨u, q1, q2⟩ := IsDs.get (i := i) h2 (by simpa using e)
    exact ⟨u, by simpa using q1, q2⟩
theorem IsDs.append : ∀ {ds es : List Dat} {vs ws : List V}, IsDs Z H p vs ds → IsDs Z H p ws es → IsDs Z H p (vs ++ ws) (ds ++ es)
  | [], _, _, _, h, g => by rw [isDs_nil.mp h]; exact g
  | d :: ds, _, _, _, h, g => by
    obtain ⟨v, r, rfl, h1, h2⟩ := isDs_cons.mp h
    exact isDs_cons.mpr ⟨v, _, rfl, h1, IsDs.append h2 g⟩
theorem IsDs.one {v : V} {d : Dat} (h : IsD Z H p v d) : IsDs Z H p [v] [d] := isDs_cons.mpr ⟨v, [], rfl, h, isDs_nil.mpr rfl⟩
theorem IsDs.drop : ∀ {ds : List Dat} {vs : List V} (n : Nat), IsDs Z H p vs ds → IsDs Z H p (vs.drop n) (ds.drop n)
  | _, _, 0, h => h
  | [], _, n + 1, h => by rw [isDs_nil.mp h]; exact isDs_nil.mpr rfl
  | d :: ds, _, n + 1, h => by
    obtain ⟨v, r, rfl, _, h2⟩ := isDs_cons.mp h
    exact IsDs.drop n h2
theorem IsDs.take : ∀ {ds : List Dat} {vs : List V} (n : Nat), IsDs Z H p vs ds → IsDs Z H p (vs.take n) (ds.take n)
  | _, _, 0, _ => isDs_nil.mpr rfl
  | [], _, n + 1, h => by rw [isDs_nil.mp h]; exact isDs_nil.mpr rfl
  | d :: ds, _, n + 1, h => by
    obtain ⟨v, r, rfl, h1, h2⟩ := isDs_cons.mp h
    exact isDs_cons.mpr ⟨v, _, rfl, h1, IsDs.take n h2⟩
theorem IsDs.set : ∀ {ds : List Dat} {vs : List V} {u : V} {e : Dat} (i : Nat), IsDs Z H p vs ds → IsD Z H p u e → IsDs Z H p (vs.set i u) (ds.set i e)
  | [], _, _, _, _, h, _ => by rw [isDs_nil.mp h]; exact isDs_nil.mpr rfl
  | d :: ds, _, u, e, 0, h, g => by
    obtain ⟨v, r, rfl, _, h2⟩ := isDs_cons.mp h
    exact isDs_cons.mpr ⟨u, r, rfl, g, h2⟩
  | d :: ds, _, u, e, i + 1, h, g => by
    obtain ⟨v, r, rfl, h1, h2⟩ := isDs_cons.mp h
    exact isDs_cons.mpr ⟨v, _, rfl, h1, IsDs.set i h2 g⟩
theorem IsDs.rev : ∀ {ds : List Dat} {vs : List V}, IsDs Z H p vs ds → IsDs Z H p vs.reverse ds.reverse
  | [], _, h => by rw [isDs_nil.mp h]; exact isDs_nil.mpr rfl
  | d :: ds, _, h => by
    obtain ⟨v, r, rfl, h1, h2⟩ := isDs_cons.mp h
    rw [List.reverse_cons, List.reverse_cons]
    exact IsDs.append (IsDs.rev h2) (.one h1)
/-- strong is weak -/
theorem IsD.w {v : V} {d : Dat} (h : IsD Z H p v d) : IsW Z H p v d := by
  cases d with
  | lst ds =>
    obtain ⟨a, vs, rfl, h1, h2⟩ := isD_lst.mp h
    exact ⟨a, vs, rfl, ⟨h1.1, fun z => h1.2 (.inl z), fun z => h1.2 (.inr (.inr z))⟩, h2⟩
  | dic ks ds =>
    obtain ⟨a, vs, rfl, h1, hl, h2⟩ := isD_dic.mp h
    exact ⟨a, vs, rfl, ⟨h1.1, fun z => h1.2 (.inl z), fun z => h1.2 (.inr (.inr z))⟩, hl, h2⟩
  | obj c fs ds =>
    obtain ⟨a, vs, rfl, h1, hl, h2⟩ := isD_obj.mp h
    exact ⟨a, vs, rfl, ⟨h1.1, fun z => h1.2 (.inl z), fun z => h1.2 (.inr (.inr z))⟩, hl, h2⟩
  | _ => exact h
end

/-! ### the store, the slots -/
def IsTop (Z : Cz) (H : Hp) (p : Pl) (a : Addr) : Dat → Prop
  | .lst ds => ∃ vs, H a = some (.lst vs) ∧ IsDs Z H p vs ds
  | .dic ks ds => ∃ vs, H a = some (.dK (ks.zip vs)) ∧ ks.length = vs.length ∧ IsDs Z H p vs ds
  | .obj c fs ds => ∃ dx vs, H a = some (.ins (Z.κ c) dx (fs.zip vs)) ∧ fs.length = vs.length ∧ IsDs Z H p vs ds
  | _ => False
structure IsS (Z : Cz) (H : Hp) (p : Pl) (S : List Dat) : Prop where
  len : p.α.length = S.length
  nd : p.α.Nodup
  dj : ∀ a ∈ p.ω, a ∉ p.α ∧ a ∉ p.γ
  dg : ∀ a ∈ p.γ, a ∉ p.α
  wt : ∀ a, a ∈ p.ω ∨ a ∈ p.γ → H a ≠ none
  at_ : ∀ (n : Nat) (a : Addr) (d : Dat), p.α[n]? = some a → S[n]? = some d → IsTop Z H p a d
theorem IsTop.there {Z : Cz} {H : Hp} {p : Pl} {a : Addr} {d : Dat} (h : IsTop Z H p a d) : H a ≠ none := by
  cases d with
  | lst ds => obtain ⟨vs, e, _⟩ := h; rw [e]; exact nofun
  | dic ks ds => obtain ⟨vs, e, _⟩ := h; rw [e]; exact nofun
  | obj c fs ds => obtain ⟨dx, vs, e, _⟩ := h; rw [e]; exact nofun
  | _ => exact h.elim
theorem IsS.tracked {Z : Cz} {H : Hp} {p : Pl} {S : List Dat} (h : IsS Z H p S) {a : Addr} (q : p.has a) : H a ≠ none := by
  rcases q with q | q
  · obtain ⟨n, hn⟩ := List.getElem?_of_mem q
    have lt := (List.getElem?_eq_some_iff.mp hn).1
    exact (h.at_ n a (S[n]'(h.len ▸ lt)) hn (List.getElem?_eq_getElem (h.len ▸ lt))).there
  · exact h.wt a q
abbrev Env := List (Option Dat)
/-- the slots: O tells the own ones (a place of the frame's alone) -/
structure IsE (Z : Cz) (O : List Nat) (H : Hp) (p : Pl) (σ : L2.St) (ρ : Env) : Prop where
  len : σ.length = ρ.length
  get : ∀ (i : Nat) (d : Dat), i ∉ O → ρ[i]? = some (some d) → ∃ v, σ[i]? = some (some v) ∧ IsD Z H p v d
  own : ∀ (i : Nat) (d : Dat), i ∈ O → ρ[i]? = some (some d) → ∃ a, σ[i]? = some (some (.ref a)) ∧ a ∈ p.ω ∧ IsTop Z H p a d
  dj : ∀ (i j : Nat) (a : Addr), i ∈ O → j ∈ O → i ≠ j → (∃ d, ρ[i]? = some (some d)) → (∃ d, ρ[j]? = some (some d)) → σ[i]? = some (some (.ref a)) → σ[j]? ≠ some (some (.ref a))
theorem IsTop.ext {Z : Cz} {H H' : Hp} {p p' : Pl} (e : Ext H p H' p') {a : Addr} (k : ∀ o, H a = some o → H' a = some o) {d : Dat} (h : IsTop Z H p a d) : IsTop Z H' p' a d := by
  cases d with
  | lst ds => obtain ⟨vs, e1, h1⟩ := h; exact ⟨vs, k _ e1, h1.ext e⟩
  | dic ks ds => obtain ⟨vs, e1, l, h1⟩ := h; exact ⟨vs, k _ e1, l, h1.ext e⟩
  | obj c fs ds => obtain ⟨dx, vs, e1, l, h1⟩ := h; exact ⟨dx, vs, k _ e1, l, h1.ext e⟩
  | _ => exact h.elim
theorem IsE.ext {Z : Cz} {O : List Nat} {H H' : Hp} {p p' : Pl} {σ : L2.St} {ρ : Env} {S : List Dat} (e : ExtE H p H' p') (s : IsS Z H p S) (h : IsE Z O H p σ ρ) : IsE Z O H' p' σ ρ := by
  refine ⟨h.len, fun i d n q => ?_, fun i d n q => ?_, h.dj⟩
  · obtain ⟨v, h1, h2⟩ := h.get i d n q
    exact ⟨v, h1, h2.ext e.s⟩
  · obtain ⟨a, h1, h2, h3⟩ := h.own i d n q
    exact ⟨a, h1, by rw [e.ω]; exact h2, h3.ext e.s fun o z => e.k a o z (s.dj a h2).1⟩
/-- the store stays where its places do -/
theorem IsS.ext {Z : Cz} {H H' : Hp} {p : Pl} {S : List Dat} (sm : Same H H') (s : IsS Z H p S) : IsS Z H' p S :=
  ⟨s.len, s.nd, s.dj, s.dg, fun a q z => s.wt a q (back_of (ExtE.same (p := p) sm).t z), fun n a d h1 h2 => (s.at_ n a d h1 h2).ext (ExtE.same sm).s fun o z => sm a o z⟩
end Zd

namespace Zd
open PySem PySem.Spec PyProof.Rows L2

/-! ### what a program does with trees -/
inductive Out (α : Type) where
  | ok (a : α) (S : List Dat)
  | er (c : String) (fs : List Dat) (S : List Dat)
  | bad
def M (α : Type) : Type := List Dat → Out α
def M.ret {α : Type} (a : α) : M α := fun S => .ok a S
def M.bnd {α β : Type} (m : M α) (f : α → M β) : M β := fun S => match m S with
  | .ok a S' => f a S'
  | .er c fs S' => .er c fs S'
  | .bad => .bad
def M.no {α : Type} : M α := fun _ => .bad
instance : Monad M where
  pure := M.ret
  bind := M.bnd
theorem m_pure {α : Type} (a : α) (S : List Dat) : (pure a : M α) S = .ok a S := rfl
theorem m_bind {α β : Type} (m : M α) (f : α → M β) (S : List Dat) : (m >>= f) S = match m S with
  | .ok a S' => f a S'
  | .er c fs S' => .er c fs S'
  | .bad => .bad := rfl
instance : LawfulMonad M := LawfulMonad.mk' M (fun m => by funext S; show M.bnd m M.ret S = m S; unfold M.bnd M.ret; cases m S <;> rfl) (fun _ _ => rfl) (fun m f g => by
  funext S
  show M.bnd (M.bnd m f) g S = M.bnd m (fun x => M.bnd (f x) g) S
  unfold M.bnd
  cases m S <;> rfl)
/-- a test of one's own: what is not so is not spoken of -/
def M.need (b : Bool) : M Unit := if b then pure () else M.no
def M.opt {α : Type} : Option α → M α
  | some a => pure a
  | none => M.no
inductive Flow where
  | nx (ρ : Env) | rt (d : Dat) | bk (ρ : Env) | ct (ρ : Env)

/-! ### what is known behind it -/
abbrev ErW := String → List Dat → List Dat → Hp → List Addr → List Addr → Prop
abbrev XR := Hp → Pl → Hp → Pl → Prop
def Post {α : Type} (Z : Cz) (Er : ErW) (X : XR) (o : Out α) (H : Hp) (p : Pl) (C : α → List Dat → Hp → Pl → Prop) : Prop := match o with
  | .ok a S' => ∀ H' p', X H p H' p' → IsS Z H' p' S' → C a S' H' p'
  | .er c fs S' => ∀ H' p', X H p H' p' → IsS Z H' p' S' → Er c fs S' H' p'.α p'.γ
  | .bad => False
structure XOk (X : XR) : Prop where
  refl : ∀ {H p}, X H p H p
  trans : ∀ {H p H1 p1 H2 p2}, X H p H1 p1 → X H1 p1 H2 p2 → X H p H2 p2
  of : ∀ {H p H' p'}, ExtE H p H' p' → X H p H' p'
  s : ∀ {H p H' p'}, X H p H' p' → Ext H p H' p'
theorem xE : XOk ExtE := ⟨ExtE.refl, fun a b => a.trans b, id, ExtE.s⟩
theorem xS : XOk Ext := ⟨Ext.refl, fun a b => a.trans b, ExtE.s, id⟩
section
variable {Z : Cz} {Er : ErW} {X : XR} {α β : Type} {o : Out α} {H : Hp} {p : Pl} {S : List Dat}
theorem Post.bnd (x : XOk X) {m : M α} {f : α → M β} {C : β → List Dat → Hp → Pl → Prop} (h : Post Z Er X ((m >>= f) S) H p C) : Post Z Er X (m S) H p fun a S' H' p' => Post Z Er X (f a S') H' p' C := by
  rw [m_bind] at h
  cases q : m S with
  | ok a S' =>
    rw [q] at h
    show ∀ H' p', X H p H' p' → IsS Z H' p' S' → Post Z Er X (f a S') H' p' C
    intro H' p' e s
    have h : Post Z Er X (f a S') H p C := h
    unfold Post at h ⊢
    cases q2 : f a S' with
    | ok b S2 => rw [q2] at h; exact fun H2 p2 e2 s2 => h H2 p2 (x.trans e e2) s2
    | er c fs S2 => rw [q2] at h; exact fun H2 p2 e2 s2 => h H2 p2 (x.trans e e2) s2
    | bad => rw [q2] at h; exact h
  | er c fs S' =>
    rw [q] at h
    exact h
  | bad =>
    rw [q] at h
    exact h
/-- the same, from the same place -/
theorem Post.bndK {m : M α} {f : α → M β} {C : β → List Dat → Hp → Pl → Prop} (h : Post Z Er X ((m >>= f) S) H p C) : Post Z Er X (m S) H p fun a S' _ _ => Post Z Er X (f a S') H p C := by
  rw [m_bind] at h
  cases q : m S with
  | ok a S' => rw [q] at h; exact fun _ _ _ _ => h
  | er c fs S' => rw [q] at h; exact h
  | bad => rw [q] at h; exact h
theorem Post.mono {C D : α → List Dat → Hp → Pl → Prop} (h : Post Z Er X o H p C) (k : ∀ a S' H' p', X H p H' p' → IsS Z H' p' S' → C a S' H' p' → D a S' H' p') : Post Z Er X o H p D := by
  unfold Post at h ⊢
  cases o with
  | ok a S' => exact fun H' p' e s => k a S' H' p' e s (h H' p' e s)
  | er c fs S' => exact h
  | bad => exact h
theorem Post.pure {a : α} {C : α → List Dat → Hp → Pl → Prop} (x : XOk X) (h : Post Z Er X ((Pure.pure a : M α) S) H p C) (s : IsS Z H p S) : C a S H p := h H p x.refl s
theorem Post.of {C : α → List Dat → Hp → Pl → Prop} (x : XOk X) (h : Post Z Er X o H p C) : Post Z Er ExtE o H p C := by
  unfold Post at h ⊢
  cases o with
  | ok a S' => exact fun H' p' e s => h H' p' (x.of e) s
  | er c fs S' => exact fun H' p' e s => h H' p' (x.of e) s
  | bad => exact h
theorem Post.need {b : Bool} {m : M α} {C : α → List Dat → Hp → Pl → Prop} (h : Post Z Er X ((M.need b >>= fun _ => m) S) H p C) : b = true ∧ Post Z Er X (m S) H p C := by
  cases b with
  | true => exact ⟨rfl, h⟩
  | false => exact (show False from h).elim
theorem Post.opt {a : Option β} {f : β → M α} {C : α → List Dat → Hp → Pl → Prop} (h : Post Z Er X ((M.opt a >>= f) S) H p C) : ∃ b, a = some b ∧ Post Z Er X (f b S) H p C := by
  cases a with
  | some b => exact ⟨b, rfl, h⟩
  | none => exact (show False from h).elim
end

/-! ### readings and what they do with trees -/
def J (Z : Cz) (Er : ErW) (O : List Nat) {α β : Type} (Rel : Hp → Pl → β → α → Prop) (te : L2.St → Hp → (β → Hp → Prop) → Prop) (m : Env → M α) : Prop :=
  ∀ (σ : L2.St) (H : Hp) (p : Pl) (ρ : Env) (S : List Dat) (Q : β → Hp → Prop), IsE Z O H p σ ρ → IsS Z H p S → Post Z Er ExtE (m ρ S) H p (fun a _ H' p' => ∀ b, Rel H' p' b a → Q b H') → te σ H Q
abbrev JD (Z : Cz) (Er : ErW) (O : List Nat) (te : TE) (m : Env → M Dat) : Prop := J Z Er O (IsD Z) te m
abbrev JW (Z : Cz) (Er : ErW) (O : List Nat) (te : TE) (m : Env → M Dat) : Prop := J Z Er O (IsW Z) te m
abbrev JB (Z : Cz) (Er : ErW) (O : List Nat) (tt : TT) (m : Env → M Bool) : Prop := J Z Er O (fun _ _ b c => b = c) tt m
abbrev JA (Z : Cz) (Er : ErW) (O : List Nat) (ta : TA) (m : Env → M (List Dat)) : Prop := J Z Er O (IsDs Z) ta m
abbrev JO (Z : Cz) (Er : ErW) (O : List Nat) (to : TO) (m : Env → M (Option Int)) : Prop := J Z Er O (fun _ _ b c => b = c) to m
/-- a new list, dict, that nobody has -/
def JF (Z : Cz) (Er : ErW) (O : List Nat) (te : TE) (m : Env → M Dat) : Prop :=
  ∀ (σ : L2.St) (H : Hp) (p : Pl) (ρ : Env) (S : List Dat) (Q : V → Hp → Prop), IsE Z O H p σ ρ → IsS Z H p S → Post Z Er ExtE (m ρ S) H p (fun d S' H' p' => ∀ a, H a = none → H' a ≠ none → ¬ p'.has a → IsS Z H' ⟨p'.α, p'.ω ++ [a], p'.γ⟩ S' → IsTop Z H' ⟨p'.α, p'.ω ++ [a], p'.γ⟩ a d → Q (.ref a) H') → te σ H Q
/-- two-place, one-place operations on values -/
def JR (Z : Cz) (A1 A2 A3 : Hp → Pl → V → Dat → Prop) (r : L2.R2) (f : Dat → Dat → M Dat) : Prop :=
  ∀ (x y : V) (d e : Dat) (Er : ErW) (H : Hp) (p : Pl) (S : List Dat) (Q : VK), A1 H p x d → A2 H p y e → IsS Z H p S → Post Z Er ExtE (f d e S) H p (fun a _ H' p' => ∀ v, A3 H' p' v a → Q v H') → r x y H Q
def JU (Z : Cz) (A1 A3 : Hp → Pl → V → Dat → Prop) (r : V → Hp → VK → Prop) (f : Dat → M Dat) : Prop :=
  ∀ (x : V) (d : Dat) (Er : ErW) (H : Hp) (p : Pl) (S : List Dat) (Q : VK), A1 H p x d → IsS Z H p S → Post Z Er ExtE (f d S) H p (fun a _ H' p' => ∀ v, A3 H' p' v a → Q v H') → r x H Q
def JC (Z : Cz) (A1 : Hp → Pl → List V → List Dat → Prop) (A3 : Hp → Pl → V → Dat → Prop) (r : List V → Hp → VK → Prop) (f : List Dat → M Dat) : Prop :=
  ∀ (x : List V) (d : List Dat) (Er : ErW) (H : Hp) (p : Pl) (S : List Dat) (Q : VK), A1 H p x d → IsS Z H p S → Post Z Er ExtE (f d S) H p (fun a _ H' p' => ∀ v, A3 H' p' v a → Q v H') → r x H Q
section
variable {Z : Cz} {Er : ErW} {O : List Nat} {te ta tb tc : TE} {tt tu : TT} {m m1 m2 m3 : Env → M Dat} {mb mc : Env → M Bool}
theorem JD.w (h : JD Z Er O te m) : JW Z Er O te m := fun σ H p ρ S Q hE hS q => h σ H p ρ S Q hE hS (q.mono fun _ _ _ _ _ _ k v hv => k v hv.w)
def xVar (i : Nat) (ρ : Env) : M Dat := match ρ[i]? with
  | some (some d) => pure d
  | _ => M.no
theorem j_var {i : Nat} (n : i ∉ O) : JD Z Er O (tVar i) (xVar i) := fun σ H p ρ S Q hE hS q => by
  unfold xVar at q
  match e : ρ[i]?, q with
  | some (some d), q =>
    obtain ⟨v, h1, h2⟩ := hE.get i d n e
    exact ⟨v, h1, q.pure xE hS v h2⟩
  | some none, q => exact (show False from q).elim
  | none, q => exact (show False from q).elim
theorem IsTop.isW {H : Hp} {p : Pl} {S : List Dat} (s : IsS Z H p S) {a : Addr} (ha : a ∈ p.ω) {d : Dat} (h : IsTop Z H p a d) : IsW Z H p (.ref a) d := by
  obtain ⟨n1, n2⟩ := s.dj a ha
  cases d with
  | lst ds => obtain ⟨vs, e1, h1⟩ := h; exact ⟨a, vs, rfl, ⟨e1, n1, n2⟩, h1⟩
  | dic ks ds => obtain ⟨vs, e1, l, h1⟩ := h; exact ⟨a, vs, rfl, ⟨e1, n1, n2⟩, l, h1⟩
  | obj c fs ds => obtain ⟨dx, vs, e1, l, h1⟩ := h; exact ⟨a, vs, rfl, ⟨⟨dx, e1⟩, n1, n2⟩, l, h1⟩
  | _ => exact h.elim
theorem j_varO {i : Nat} (n : i ∈ O) : JW Z Er O (tVar i) (xVar i) := fun σ H p ρ S Q hE hS q => by
  unfold xVar at q
  match e : ρ[i]?, q with
  | some (some d), q =>
    obtain ⟨a, h1, h2, h3⟩ := hE.own i d n e
    exact ⟨_, h1, q.pure xE hS _ (h3.isW hS h2)⟩
  | some none, q => exact (show False from q).elim
  | none, q => exact (show False from q).elim
def xC (d : Dat) (_ : Env) : M Dat := pure d
theorem j_c {v : V} {d : Dat} (h : ∀ H p, IsD Z H p v d) : JD Z Er O (tC v) (xC d) := fun σ H p ρ S Q hE hS q => q.pure xE hS v (h H p)
theorem j_int {i : Int} : JD Z Er O (tC (.int i)) (xC (.int i)) := j_c fun _ _ => isD_int.mpr rfl
theorem j_str {i : Str} : JD Z Er O (tC (.str i)) (xC (.str i)) := j_c fun _ _ => isD_str.mpr rfl
theorem j_bl {i : Bool} : JD Z Er O (tC (.bl i)) (xC (.bl i)) := j_c fun _ _ => isD_bl.mpr rfl
theorem j_non : JD Z Er O (tC .non) (xC .non) := j_c fun _ _ => isD_non.mpr rfl
theorem j_ty {i : String} : JD Z Er O (tC (.ty i)) (xC (.ty i)) := j_c fun _ _ => isD_ty.mpr rfl
def xOp (f : Dat → Dat → M Dat) (a b : Env → M Dat) (ρ : Env) : M Dat := a ρ >>= fun x => b ρ >>= fun y => f x y
structure Up (Z : Cz) (R : Hp → Pl → V → Dat → Prop) : Prop where
  up : ∀ {H p H' p' v d S}, ExtE H p H' p' → IsS Z H p S → R H p v d → R H' p' v d
theorem upD : Up Z (IsD Z) := ⟨fun e _ h => h.ext e.s⟩
theorem upW : Up Z (IsW Z) := ⟨fun {H p H' p' v d S} e s h => by
  cases d with
  | lst ds =>
    obtain ⟨a, vs, rfl, ⟨r, n1, n2⟩, h2⟩ := h
    exact ⟨a, vs, rfl, ⟨e.k _ _ r n1, not_fresh e.α r n1, by rw [e.γ]; exact n2⟩, h2.ext e.s⟩
  | dic ks ds =>
    obtain ⟨a, vs, rfl, ⟨r, n1, n2⟩, l, h2⟩ := h
    exact ⟨a, vs, rfl, ⟨e.k _ _ r n1, not_fresh e.α r n1, by rw [e.γ]; exact n2⟩, l, h2.ext e.s⟩
  | obj c fs ds =>
    obtain ⟨a, vs, rfl, ⟨⟨dx, r⟩, n1, n2⟩, l, h2⟩ := h
    exact ⟨a, vs, rfl, ⟨⟨dx, e.k _ _ r n1⟩, not_fresh e.α r n1, by rw [e.γ]; exact n2⟩, l, h2.ext e.s⟩
  | non => exact IsD.ext e.s _ h
  | bl b => exact IsD.ext e.s _ h
  | int i => exact IsD.ext e.s _ h
  | str x => exact IsD.ext e.s _ h
  | tup ds => exact IsD.ext e.s _ h
  | loc n => exact IsD.ext e.s _ h
  | ty n => exact IsD.ext e.s _ h
  | cls n => exact IsD.ext e.s _ h
  | scr n => exact IsD.ext e.s _ h⟩
variable {A1 A2 A3 : Hp → Pl → V → Dat → Prop} {r : L2.R2} {f : Dat → Dat → M Dat}
theorem j_op (u : Up Z A1) (hr : JR Z A1 A2 A3 r f) (ha : J Z Er O A1 ta m1) (hb : J Z Er O A2 tb m2) : J Z Er O A3 (tOp r ta tb) (xOp f m1 m2) := fun σ H p ρ S Q hE hS q =>
  ha σ H p ρ S _ hE hS ((q.bnd xE).mono fun d S1 H1 p1 e1 s1 q1 v hv => hb σ H1 p1 ρ S1 _ (hE.ext e1 hS) s1 ((q1.bnd xE).mono fun e S2 H2 p2 e2 s2 q2 w hw => hr v w d e Er H2 p2 S2 _ (u.up e2 s1 hv) hw s2 q2))
def xUn (f : Dat → M Dat) (a : Env → M Dat) (ρ : Env) : M Dat := a ρ >>= f
theorem j_un {r : V → Hp → VK → Prop} {f : Dat → M Dat} (hr : JU Z A1 A3 r f) (ha : J Z Er O A1 ta m1) : J Z Er O A3 (tUn r ta) (xUn f m1) := fun σ H p ρ S Q hE hS q =>
  ha σ H p ρ S _ hE hS ((q.bnd xE).mono fun d S1 H1 p1 e1 s1 q1 v hv => hr v d Er H1 p1 S1 _ hv s1 q1)
/-! tests -/
def dB : Dat → Option Bool
  | .bl b => some b
  | _ => none
theorem dB_some {d : Dat} {b : Bool} (h : dB d = some b) : d = .bl b := by
  cases d <;> first | (cases h; rfl) | cases h
def bTest (a : Env → M Dat) (ρ : Env) : M Bool := a ρ >>= fun x => M.opt (dB x)
theorem opt_pure {α : Type} {a : Option α} {S : List Dat} {H : Hp} {p : Pl} {X : XR} {C : α → List Dat → Hp → Pl → Prop} (x : XOk X) (h : Post Z Er X (M.opt a S) H p C) (s : IsS Z H p S) : ∃ b, a = some b ∧ C b S H p := by
  cases a with
  | some b => exact ⟨b, rfl, h H p x.refl s⟩
  | none => exact (show False from h).elim
theorem jb_test (ha : JD Z Er O ta m1) : JB Z Er O (tTest ta) (bTest m1) := fun σ H p ρ S Q hE hS q =>
  ha σ H p ρ S _ hE hS ((q.bnd xE).mono fun d S1 H1 p1 e1 s1 q1 v hv => by
    obtain ⟨b, e, k⟩ := opt_pure xE q1 s1
    rw [dB_some e] at hv
    exact ⟨b, isD_bl.mp hv, k b rfl⟩)
theorem jb_B (ha : JD Z Er O ta m1) : JB Z Er O (tB ta) (bTest m1) := jb_test ha
def bAnd (a b : Env → M Bool) (ρ : Env) : M Bool := a ρ >>= fun x => if x = true then b ρ else pure false
def bOr (a b : Env → M Bool) (ρ : Env) : M Bool := a ρ >>= fun x => if x = true then pure true else b ρ
def bNot (a : Env → M Bool) (ρ : Env) : M Bool := a ρ >>= fun x => pure (!x)
theorem jb_and (ha : JB Z Er O tt mb) (hb : JB Z Er O tu mc) : JB Z Er O (tAnd tt tu) (bAnd mb mc) := fun σ H p ρ S Q hE hS q =>
  ha σ H p ρ S _ hE hS ((q.bnd xE).mono fun d S1 H1 p1 e1 s1 q1 v hv => by
    subst hv
    cases v with
    | true => exact hb σ H1 p1 ρ S1 Q (hE.ext e1 hS) s1 q1
    | false => exact Post.pure xE q1 s1 false rfl)
theorem jb_or (ha : JB Z Er O tt mb) (hb : JB Z Er O tu mc) : JB Z Er O (tOr tt tu) (bOr mb mc) := fun σ H p ρ S Q hE hS q =>
  ha σ H p ρ S _ hE hS ((q.bnd xE).mono fun d S1 H1 p1 e1 s1 q1 v hv => by
    subst hv
    cases v with
    | false => exact hb σ H1 p1 ρ S1 Q (hE.ext e1 hS) s1 q1
    | true => exact Post.pure xE q1 s1 true rfl)
theorem jb_not (ha : JB Z Er O tt mb) : JB Z Er O (tNot tt) (bNot mb) := fun σ H p ρ S Q hE hS q =>
  ha σ H p ρ S _ hE hS ((q.bnd xE).mono fun d S1 H1 p1 e1 s1 q1 v hv => by
    subst hv
    exact Post.pure xE q1 s1 _ rfl)
def bYes (_ : Env) : M Bool := pure true
theorem jb_yes : JB Z Er O tYes bYes := fun σ H p ρ S Q hE hS q => q.pure xE hS true rfl
def xAnd (a b : Env → M Dat) (ρ : Env) : M Dat := bTest a ρ >>= fun x => if x = true then b ρ else pure (.bl false)
def xOr (a b : Env → M Dat) (ρ : Env) : M Dat := bTest a ρ >>= fun x => if x = true then pure (.bl true) else b ρ
def xNot (a : Env → M Dat) (ρ : Env) : M Dat := bTest a ρ >>= fun x => pure (.bl (!x))
theorem j_andV (ha : JD Z Er O ta m1) (hb : JD Z Er O tb m2) : JD Z Er O (tAndV ta tb) (xAnd m1 m2) := fun σ H p ρ S Q hE hS q =>
  jb_test ha σ H p ρ S (fun b H1 => if b = true then tb σ H1 Q else Q (.bl false) H1) hE hS ((q.bnd xE).mono fun d S1 H1 p1 e1 s1 q1 v hv => by
    subst hv
    cases v with
    | true => exact hb σ H1 p1 ρ S1 Q (hE.ext e1 hS) s1 q1
    | false => exact Post.pure xE q1 s1 _ (isD_bl.mpr rfl))
theorem j_orV (ha : JD Z Er O ta m1) (hb : JD Z Er O tb m2) : JD Z Er O (tOrV ta tb) (xOr m1 m2) := fun σ H p ρ S Q hE hS q =>
  jb_test ha σ H p ρ S (fun b H1 => if b = true then Q (.bl true) H1 else tb σ H1 Q) hE hS ((q.bnd xE).mono fun d S1 H1 p1 e1 s1 q1 v hv => by
    subst hv
    cases v with
    | false => exact hb σ H1 p1 ρ S1 Q (hE.ext e1 hS) s1 q1
    | true => exact Post.pure xE q1 s1 _ (isD_bl.mpr rfl))
theorem j_notV (ha : JD Z Er O ta m1) : JD Z Er O (tNotV ta) (xNot m1) := fun σ H p ρ S Q hE hS q =>
  jb_test ha σ H p ρ S (fun b H1 => Q (.bl (!b)) H1) hE hS ((q.bnd xE).mono fun d S1 H1 p1 e1 s1 q1 v hv => by
    subst hv
    exact Post.pure xE q1 s1 _ (isD_bl.mpr rfl))
def xIf (c : Env → M Bool) (a b : Env → M Dat) (ρ : Env) : M Dat := c ρ >>= fun x => if x = true then a ρ else b ρ
theorem j_if (hc : JB Z Er O tt mb) (ha : J Z Er O A3 ta m1) (hb : J Z Er O A3 tb m2) : J Z Er O A3 (tIf tt ta tb) (xIf mb m1 m2) := fun σ H p ρ S Q hE hS q =>
  hc σ H p ρ S _ hE hS ((q.bnd xE).mono fun d S1 H1 p1 e1 s1 q1 v hv => by
    subst hv
    cases v with
    | true => exact ha σ H1 p1 ρ S1 Q (hE.ext e1 hS) s1 q1
    | false => exact hb σ H1 p1 ρ S1 Q (hE.ext e1 hS) s1 q1)
/-- a op b op c -/
def xChain (f g : Dat → Dat → M Dat) (a b c : Env → M Dat) (ρ : Env) : M Dat := a ρ >>= fun x => b ρ >>= fun y => (f x y >>= fun z => M.opt (dB z)) >>= fun k => if k = true then c ρ >>= fun u => g y u else pure (.bl false)
theorem j_chain {r r' : L2.R2} {f g : Dat → Dat → M Dat} (hr : JR Z (IsD Z) (IsD Z) (IsD Z) r f) (hr' : JR Z (IsD Z) (IsD Z) (IsD Z) r' g) (ha : JD Z Er O ta m1) (hb : JD Z Er O tb m2) (hc : JD Z Er O tc m3) : JD Z Er O (tChain r r' ta tb tc) (xChain f g m1 m2 m3) := fun σ H p ρ S Q hE hS q =>
  ha σ H p ρ S _ hE hS ((q.bnd xE).mono fun d S1 H1 p1 e1 s1 q1 v hv => hb σ H1 p1 ρ S1 _ (hE.ext e1 hS) s1 ((q1.bnd xE).mono fun e S2 H2 p2 e2 s2 q2 w hw =>
    hr v w d e Er H2 p2 S2 _ (hv.ext e2.s) hw s2 (((q2.bnd xE).bnd xE).mono fun z S3 H3 p3 e3 s3 q3 zv hz => by
      obtain ⟨b, e, k⟩ := opt_pure xE q3 s3
      rw [dB_some e] at hz
      refine ⟨b, isD_bl.mp hz, ?_⟩
      cases b with
      | true =>
        have k : Post Z Er ExtE ((m3 ρ >>= fun u => g _ u) S3) H3 p3 _ := k
        exact hc σ H3 p3 ρ S3 _ (((hE.ext e1 hS).ext e2 s1).ext e3 s2) s3 ((k.bnd xE).mono fun u S4 H4 p4 e4 s4 q4 uv hu => hr' w uv _ _ Er H4 p4 S4 _ (hw.ext (e3.trans e4).s) hu s4 q4)
      | false => exact Post.pure xE k s3 _ (isD_bl.mpr rfl))))
/-! arguments, tuples, lists -/
def xNil (_ : Env) : M (List Dat) := pure []
def xCons (a : Env → M Dat) (l : Env → M (List Dat)) (ρ : Env) : M (List Dat) := a ρ >>= fun x => l ρ >>= fun xs => pure (x :: xs)
variable {tl : TA} {ml : Env → M (List Dat)}
theorem ja_nil : JA Z Er O tNil xNil := fun σ H p ρ S Q hE hS q => q.pure xE hS [] (isDs_nil.mpr rfl)
theorem ja_cons (ha : JD Z Er O ta m1) (hl : JA Z Er O tl ml) : JA Z Er O (tCons ta tl) (xCons m1 ml) := fun σ H p ρ S Q hE hS q =>
  ha σ H p ρ S _ hE hS ((q.bnd xE).mono fun d S1 H1 p1 e1 s1 q1 v hv => hl σ H1 p1 ρ S1 _ (hE.ext e1 hS) s1 ((q1.bnd xE).mono fun ds S2 H2 p2 e2 s2 q2 vs hvs => q2.pure xE s2 (v :: vs) (isDs_cons.mpr ⟨v, vs, rfl, hv.ext e2.s, hvs⟩)))
/-- the first one a container that may be the frame's own -/
def IsWs (Z : Cz) (H : Hp) (p : Pl) (vs : List V) : List Dat → Prop
  | [] => vs = []
  | d :: ds => ∃ v r, vs = v :: r ∧ IsW Z H p v d ∧ IsDs Z H p r ds
theorem ja_consW (ha : JW Z Er O ta m1) (hl : JA Z Er O tl ml) : J Z Er O (IsWs Z) (tCons ta tl) (xCons m1 ml) := fun σ H p ρ S Q hE hS q =>
  ha σ H p ρ S _ hE hS ((q.bnd xE).mono fun d S1 H1 p1 e1 s1 q1 v hv => hl σ H1 p1 ρ S1 _ (hE.ext e1 hS) s1 ((q1.bnd xE).mono fun ds S2 H2 p2 e2 s2 q2 vs hvs => q2.pure xE s2 (v :: vs) ⟨v, vs, rfl, upW.up e2 s1 hv, hvs⟩))
theorem no_has {H : Hp} {p : Pl} {S : List Dat} (s : IsS Z H p S) {a : Addr} (h : H a = none) : ¬ p.has a := fun q => s.tracked q h
theorem new_tup {H : Hp} {p : Pl} {S : List Dat} (s : IsS Z H p S) {a : Addr} {vs : List V} {ds : List Dat} (na : H a = none) (h : IsDs Z H p vs ds) : IsD Z (upd H a (.tup vs)) p (.ref a) (.tup ds) :=
  isD_tup.mpr ⟨a, vs, rfl, .inl ⟨.inl upd_same, no_has s na⟩, h.ext (ExtE.new na).s⟩
theorem new_lst {H : Hp} {p : Pl} {S : List Dat} (s : IsS Z H p S) {a : Addr} {vs : List V} {ds : List Dat} (na : H a = none) (h : IsDs Z H p vs ds) : IsD Z (upd H a (.lst vs)) p (.ref a) (.lst ds) :=
  isD_lst.mpr ⟨a, vs, rfl, ⟨upd_same, no_has s na⟩, h.ext (ExtE.new na).s⟩
/-- a step of the heap that lays one new object -/
theorem Post.at_new {α : Type} {a : α} {H : Hp} {p : Pl} {S : List Dat} {C : α → List Dat → Hp → Pl → Prop} (q : Post Z Er ExtE ((Pure.pure a : M α) S) H p C) (s : IsS Z H p S) {x : Addr} {o : HO} (nx : H x = none) : C a S (upd H x o) p :=
  q _ _ (ExtE.new nx) (s.ext (same_new nx))
def xTup (l : Env → M (List Dat)) (ρ : Env) : M Dat := l ρ >>= fun ds => M.need (decide (ds.length ≤ 1000)) >>= fun _ => pure (.tup ds)
def xLst (l : Env → M (List Dat)) (ρ : Env) : M Dat := l ρ >>= fun ds => M.need (decide (ds.length ≤ 1000)) >>= fun _ => pure (.lst ds)
theorem few {n : Nat} (h : n ≤ 1000) : n ≤ sizeLine := Nat.le_of_lt (small1000 h)
theorem j_tup (hl : JA Z Er O tl ml) : JD Z Er O (tTup tl) (xTup ml) := fun σ H p ρ S Q hE hS q =>
  hl σ H p ρ S _ hE hS ((q.bnd xE).mono fun ds S1 H1 p1 e1 s1 q1 vs hv => by
    obtain ⟨c, q2⟩ := q1.need
    exact ⟨few (by rw [hv.len]; exact of_decide_eq_true c), fun a na => q2.at_new s1 na _ (new_tup s1 na hv)⟩)
theorem j_lst (hl : JA Z Er O tl ml) : JD Z Er O (tLst tl) (xLst ml) := fun σ H p ρ S Q hE hS q =>
  hl σ H p ρ S _ hE hS ((q.bnd xE).mono fun ds S1 H1 p1 e1 s1 q1 vs hv => by
    obtain ⟨c, q2⟩ := q1.need
    exact ⟨few (by rw [hv.len]; exact of_decide_eq_true c), fun a na => q2.at_new s1 na _ (new_lst s1 na hv)⟩)
def xCB (f : List Dat → M Dat) (l : Env → M (List Dat)) (ρ : Env) : M Dat := l ρ >>= f
theorem j_cb {rc : List V → Hp → VK → Prop} {f : List Dat → M Dat} {RA : Hp → Pl → List V → List Dat → Prop} (hr : JC Z RA A3 rc f) (hl : J Z Er O RA tl ml) : J Z Er O A3 (tCB rc tl) (xCB f ml) := fun σ H p ρ S Q hE hS q =>
  hl σ H p ρ S _ hE hS ((q.bnd xE).mono fun ds S1 H1 p1 e1 s1 q1 vs hv => hr vs ds Er H1 p1 S1 _ hv s1 q1)
end
end Zd

namespace Zd
open PySem PySem.Spec PyProof.Rows L2

/-! ### targets -/
def JG (Z : Cz) (O : List Nat) (g : TG) (m : Env → Dat → Option Env) (vs : Option (List Nat)) : Prop :=
  ∀ (v : V) (σ : L2.St) (H : Hp) (p : Pl) (ρ : Env) (d : Dat) (R : L2.St → Hp → Prop), IsE Z O H p σ ρ → IsD Z H p v d → (∃ ρ', m ρ d = some ρ' ∧ ∀ σ', IsE Z O H p σ' ρ' → (∀ w, vs = some w → L2.wipe σ' w = L2.wipe σ w) → R σ' H) → g v σ H R
def JGs (Z : Cz) (O : List Nat) (g : TGs) (m : Env → List Dat → Option Env) (vs : Option (List Nat)) : Prop :=
  ∀ (v : List V) (σ : L2.St) (H : Hp) (p : Pl) (ρ : Env) (d : List Dat) (R : L2.St → Hp → Prop), IsE Z O H p σ ρ → IsDs Z H p v d → (∃ ρ', m ρ d = some ρ' ∧ ∀ σ', IsE Z O H p σ' ρ' → (∀ w, vs = some w → L2.wipe σ' w = L2.wipe σ w) → R σ' H) → g v σ H R
theorem IsE.set {Z : Cz} {O : List Nat} {H : Hp} {p : Pl} {σ : L2.St} {ρ : Env} (h : IsE Z O H p σ ρ) {i : Nat} {v : V} {d : Dat} (n : i ∉ O) (hv : IsD Z H p v d) : IsE Z O H p (σ.set i (some v)) (ρ.set i (some d)) := by
  refine ⟨by rw [List.length_set, List.length_set]; exact h.len, fun j e nj q => ?_, fun j e oj q => ?_, fun j k a oj ok ne hj hk q => ?_⟩
  · by_cases c : i = j
    · subst c
      rw [List.getElem?_set_self' ] at q ⊢
      cases z : ρ[i]? with
      | none => rw [z] at q; cases q
      | some w =>
        rw [z] at q
        cases q
        have lt := (List.getElem?_eq_some_iff.mp z).1
        rw [List.getElem?_eq_getElem (by rw [h.len]; exact lt)]
        exact ⟨v, rfl, hv⟩
    · rw [List.getElem?_set_ne c] at q ⊢
      exact h.get j e nj q
  · have c : i ≠ j := fun z => n (z ▸ oj)
    rw [List.getElem?_set_ne c] at q ⊢
    exact h.own j e oj q
  · have c1 : i ≠ j := fun z => n (z ▸ oj)
    have c2 : i ≠ k := fun z => n (z ▸ ok)
    rw [List.getElem?_set_ne c1] at hj q
    rw [List.getElem?_set_ne c2] at hk ⊢
    exact h.dj j k a oj ok ne hj hk q
theorem IsE.unset {Z : Cz} {O : List Nat} {H : Hp} {p : Pl} {σ : L2.St} {ρ : Env} (h : IsE Z O H p σ ρ) {i : Nat} : IsE Z O H p (σ.set i none) (ρ.set i none) := by
  have step : ∀ (j : Nat) (e : Dat), (ρ.set i none)[j]? = some (some e) → i ≠ j ∧ ρ[j]? = some (some e) := fun j e q => by
    by_cases c : i = j
    · subst c
      rw [List.getElem?_set_self'] at q
      cases z : ρ[i]? with
      | none => rw [z] at q; cases q
      | some w => rw [z] at q; cases q
    · rw [List.getElem?_set_ne c] at q
      exact ⟨c, q⟩
  refine ⟨by rw [List.length_set, List.length_set]; exact h.len, fun j e nj q => ?_, fun j e oj q => ?_, fun j k a oj ok ne hj hk q => ?_⟩
  · obtain ⟨c, z⟩ := step j e q
    rw [List.getElem?_set_ne c]
    exact h.get j e nj z
  · obtain ⟨c, z⟩ := step j e q
    rw [List.getElem?_set_ne c]
    exact h.own j e oj z
  · obtain ⟨d1, hj⟩ := hj
    obtain ⟨d2, hk⟩ := hk
    obtain ⟨c1, z1⟩ := step j d1 hj
    obtain ⟨c2, z2⟩ := step k d2 hk
    rw [List.getElem?_set_ne c1] at q
    rw [List.getElem?_set_ne c2]
    exact h.dj j k a oj ok ne ⟨d1, z1⟩ ⟨d2, z2⟩ q
def wipeE (ρ : Env) : List Nat → Env
  | [] => ρ
  | v :: vs => (wipeE ρ vs).set v none
theorem IsE.wipe {Z : Cz} {O : List Nat} {H : Hp} {p : Pl} {σ : L2.St} {ρ : Env} (h : IsE Z O H p σ ρ) : ∀ vs : List Nat, IsE Z O H p (L2.wipe σ vs) (wipeE ρ vs)
  | [] => h
  | v :: vs => (IsE.wipe h vs).unset
theorem wipe_set {i : Nat} {x : Option V} : ∀ {vs : List Nat} {σ : L2.St}, i ∈ vs → L2.wipe (σ.set i x) vs = L2.wipe σ vs
  | [], _, h => by cases h
  | v :: vs, σ, h => by
    by_cases c : i ∈ vs
    · unfold L2.wipe
      rw [wipe_set c]
    · have e : i = v := (List.mem_cons.mp h).resolve_right c
      subst e
      have comm : ∀ (ws : List Nat), i ∉ ws → L2.wipe (σ.set i x) ws = (L2.wipe σ ws).set i x := fun ws => by
        induction ws with
        | nil => intro _; rfl
        | cons w ws ih =>
          intro n
          unfold L2.wipe
          rw [ih fun z => n (List.mem_cons_of_mem _ z), List.set_comm _ _ fun z => n (by rw [z]; exact List.mem_cons_self)]
      unfold L2.wipe
      rw [comm vs c, List.set_set]
theorem wipe_put {σ : L2.St} : ∀ {vs : List Nat} {i : Nat}, i ∈ vs → (L2.wipe σ vs).set i none = L2.wipe σ vs
  | [], _, h => by cases h
  | v :: vs, i, h => by
    unfold L2.wipe
    by_cases c : v = i
    · subst c
      rw [List.set_set]
    · rw [List.set_comm _ _ c, wipe_put ((List.mem_cons.mp h).resolve_left fun z => c z.symm)]
theorem wipe_sub {σ : L2.St} {vs : List Nat} : ∀ ws : List Nat, (∀ w ∈ ws, w ∈ vs) → L2.wipe (L2.wipe σ vs) ws = L2.wipe σ vs
  | [], _ => rfl
  | w :: ws, h => by
    show (L2.wipe (L2.wipe σ vs) ws).set w none = L2.wipe σ vs
    rw [wipe_sub ws fun x m => h x (List.mem_cons_of_mem _ m), wipe_put (h w List.mem_cons_self)]
theorem wipe_wipe (σ : L2.St) (vs : List Nat) : L2.wipe (L2.wipe σ vs) vs = L2.wipe σ vs := wipe_sub vs fun _ h => h
def gN (i : Nat) (ρ : Env) (d : Dat) : Option Env := some (ρ.set i (some d))
def gT (n : Nat) (t : Env → List Dat → Option Env) (ρ : Env) (d : Dat) : Option Env := match d with
  | .tup ds => if ds.length = n then t ρ ds else none
  | _ => none
def gNl (ρ : Env) (ds : List Dat) : Option Env := match ds with
  | [] => some ρ
  | _ => none
def gCo (t : Env → Dat → Option Env) (u : Env → List Dat → Option Env) (ρ : Env) (ds : List Dat) : Option Env := match ds with
  | d :: r => (t ρ d).bind fun ρ' => u ρ' r
  | [] => none
section
variable {Z : Cz} {Er : ErW} {O : List Nat} {vs : Option (List Nat)} {te ta tb tc : TE} {tt tu : TT} {m m1 m2 m3 : Env → M Dat} {mb mc : Env → M Bool} {tl : TA} {ml : Env → M (List Dat)}
theorem jg_name {i : Nat} (n : i ∉ O) (hi : ∀ w, vs = some w → i ∈ w) : JG Z O (gName i) (gN i) vs := fun v σ H p ρ d R hE hv h => by
  obtain ⟨ρ', e, k⟩ := h
  cases e
  exact k _ (hE.set n hv) fun w e => wipe_set (hi w e)
theorem jg_nil : JGs Z O gNil gNl vs := fun v σ H p ρ d R hE hv h => by
  obtain ⟨ρ', e, k⟩ := h
  cases d with
  | nil =>
    cases e
    exact ⟨isDs_nil.mp hv, k _ hE fun _ _ => rfl⟩
  | cons _ _ => cases e
theorem jg_cons {t : TG} {u : TGs} {a : Env → Dat → Option Env} {b : Env → List Dat → Option Env} (h1 : JG Z O t a vs) (h2 : JGs Z O u b vs) : JGs Z O (gCons t u) (gCo a b) vs := fun v σ H p ρ d R hE hv h => by
  obtain ⟨ρ', e, k⟩ := h
  cases d with
  | nil => cases e
  | cons d r =>
    obtain ⟨x, xs, rfl, hx, hxs⟩ := isDs_cons.mp hv
    have e : (a ρ d).bind (fun ρ' => b ρ' r) = some ρ' := e
    cases q : a ρ d with
    | none => rw [q] at e; cases e
    | some ρ1 =>
      rw [q] at e
      exact ⟨x, xs, rfl, h1 x σ H p ρ d _ hE hx ⟨ρ1, q, fun σ1 hE1 w1 => h2 xs σ1 H p ρ1 r _ hE1 hxs ⟨ρ', e, fun σ2 hE2 w2 => k σ2 hE2 fun w ew => (w2 w ew).trans (w1 w ew)⟩⟩⟩
theorem jg_tup {n : Nat} {t : TGs} {u : Env → List Dat → Option Env} (h1 : JGs Z O t u vs) : JG Z O (gTup Z.K n t) (gT n u) vs := fun v σ H p ρ d R hE hv h => by
  obtain ⟨ρ', e, k⟩ := h
  cases d with
  | tup ds =>
    obtain ⟨a, xs, rfl, ha, hx⟩ := isD_tup.mp hv
    have e : (if ds.length = n then u ρ ds else none) = some ρ' := e
    by_cases c : ds.length = n
    · rw [if_pos c] at e
      exact ⟨a, xs, rfl, ha.sq, hx.len.trans c, h1 xs σ H p ρ ds R hE hx ⟨ρ', e, k⟩⟩
    · rw [if_neg c] at e
      cases e
  | _ => cases e

/-! ### statements -/
def FlowOk (Z : Cz) (O : List Nat) (D : Ends) (f : Flow) (H : Hp) (p : Pl) : Prop := match f with
  | .nx ρ => ∀ σ, IsE Z O H p σ ρ → D.nx σ H
  | .rt d => ∀ v, IsW Z H p v d → D.rt v H
  | .bk ρ => ∀ σ, IsE Z O H p σ ρ → D.bk σ H
  | .ct ρ => ∀ σ, IsE Z O H p σ ρ → D.ct σ H
def JS (Z : Cz) (Er : ErW) (O : List Nat) (ts : TS) (m : Env → M Flow) : Prop :=
  ∀ (σ : L2.St) (H : Hp) (p : Pl) (ρ : Env) (S : List Dat) (D : Ends), IsE Z O H p σ ρ → IsS Z H p S → Post Z Er Ext (m ρ S) H p (fun f _ H' p' => FlowOk Z O D f H' p') → ts D σ H
/-- behind an expression -/
theorem Post.bndE {α β : Type} {S : List Dat} {H : Hp} {p : Pl} {m : M α} {f : α → M β} {C : β → List Dat → Hp → Pl → Prop} (h : Post Z Er Ext ((m >>= f) S) H p C) : Post Z Er ExtE (m S) H p fun a S' H' p' => Post Z Er Ext (f a S') H' p' C := (h.bnd xS).of xS
def sNx (ρ : Env) : M Flow := pure (.nx ρ)
def sSeq (a b : Env → M Flow) (ρ : Env) : M Flow := a ρ >>= fun f => match f with
  | .nx ρ' => b ρ'
  | g => pure g
variable {ts tr : TS} {ms mr : Env → M Flow}
theorem js_next : JS Z Er O tNext sNx := fun σ H p ρ S D hE hS q => q.pure xS hS σ hE
theorem js_seq (h1 : JS Z Er O ts ms) (h2 : JS Z Er O tr mr) : JS Z Er O (tSeq ts tr) (sSeq ms mr) := fun σ H p ρ S D hE hS q =>
  h1 σ H p ρ S _ hE hS ((q.bnd xS).mono fun f S1 H1 p1 e1 s1 q1 => by
    cases f with
    | nx ρ1 => exact fun σ1 hE1 => h2 σ1 H1 p1 ρ1 S1 D hE1 s1 q1
    | rt d => exact Post.pure xS q1 s1
    | bk ρ1 => exact Post.pure xS q1 s1
    | ct ρ1 => exact Post.pure xS q1 s1)
def sAsg (a : Env → M Dat) (g : Env → Dat → Option Env) (ρ : Env) : M Flow := a ρ >>= fun d => M.opt (g ρ d) >>= fun ρ' => pure (.nx ρ')
theorem js_asg {g : TG} {gm : Env → Dat → Option Env} (ha : JD Z Er O ta m1) (hg : JG Z O g gm none) : JS Z Er O (tAsg ta g) (sAsg m1 gm) := fun σ H p ρ S D hE hS q =>
  ha σ H p ρ S _ hE hS (q.bndE.mono fun d S1 H1 p1 e1 s1 q1 v hv => by
    obtain ⟨ρ1, e, q2⟩ := q1.opt
    exact hg v σ H1 p1 ρ d _ (hE.ext e1 hS) hv ⟨ρ1, e, fun σ' hE' _ => q2.pure xS s1 σ' hE'⟩)
def sRet (a : Env → M Dat) (ρ : Env) : M Flow := a ρ >>= fun d => pure (.rt d)
theorem js_ret (ha : JW Z Er O ta m1) : JS Z Er O (tRet ta) (sRet m1) := fun σ H p ρ S D hE hS q =>
  ha σ H p ρ S _ hE hS (q.bndE.mono fun d S1 H1 p1 e1 s1 q1 v hv => q1.pure xS s1 v hv)
def sRetN (ρ : Env) : M Flow := pure (.rt .non)
theorem js_retN : JS Z Er O tRetN sRetN := fun σ H p ρ S D hE hS q => q.pure xS hS .non ((isD_non (Z := Z) (H := H) (p := p)).mpr rfl)
def sDrop (a : Env → M Dat) (ρ : Env) : M Flow := a ρ >>= fun _ => pure (.nx ρ)
theorem js_drop (ha : JD Z Er O ta m1) : JS Z Er O (tDrop ta) (sDrop m1) := fun σ H p ρ S D hE hS q =>
  ha σ H p ρ S _ hE hS (q.bndE.mono fun d S1 H1 p1 e1 s1 q1 v hv => q1.pure xS s1 σ (hE.ext e1 hS))
def sIf (c : Env → M Bool) (a b : Env → M Flow) (ρ : Env) : M Flow := c ρ >>= fun x => if x = true then a ρ else b ρ
theorem js_if (hc : JB Z Er O tt mb) (h1 : JS Z Er O ts ms) (h2 : JS Z Er O tr mr) : JS Z Er O (tIfS tt ts tr) (sIf mb ms mr) := fun σ H p ρ S D hE hS q =>
  hc σ H p ρ S _ hE hS (q.bndE.mono fun b S1 H1 p1 e1 s1 q1 c hc => by
    subst hc
    cases c with
    | true => exact h1 σ H1 p1 ρ S1 D (hE.ext e1 hS) s1 q1
    | false => exact h2 σ H1 p1 ρ S1 D (hE.ext e1 hS) s1 q1)
def sNo (_ : Env) : M Flow := M.no
theorem js_never : JS Z Er O tNever sNo := fun σ H p ρ S D hE hS q => (show False from q)
def sPar (i j : Nat) (l : Env → M (List Dat)) (ρ : Env) : M Flow := l ρ >>= fun ds => match ds with
  | [a, b] => pure (.nx ((ρ.set i (some a)).set j (some b)))
  | _ => M.no
theorem js_par {i j : Nat} (ni : i ∉ O) (nj : j ∉ O) (hl : JA Z Er O tl ml) : JS Z Er O (tPar i j tl) (sPar i j ml) := fun σ H p ρ S D hE hS q =>
  hl σ H p ρ S _ hE hS (q.bndE.mono fun ds S1 H1 p1 e1 s1 q1 vs hv => by
    match ds, hv, q1 with
    | [a, b], hv, q1 =>
      obtain ⟨x, r, rfl, hx, hr⟩ := isDs_cons.mp hv
      obtain ⟨y, r2, rfl, hy, hr2⟩ := isDs_cons.mp hr
      rw [isDs_nil.mp hr2]
      exact ⟨x, y, rfl, q1.pure xS s1 _ (((hE.ext e1 hS).set ni hx).set nj hy)⟩
    | [], _, q1 => exact (show False from q1).elim
    | [_], _, q1 => exact (show False from q1).elim
    | _ :: _ :: _ :: _, _, q1 => exact (show False from q1).elim)
def sPar3 (i j k : Nat) (l : Env → M (List Dat)) (ρ : Env) : M Flow := l ρ >>= fun ds => match ds with
  | [a, b, c] => pure (.nx (((ρ.set i (some a)).set j (some b)).set k (some c)))
  | _ => M.no
theorem js_par3 {i j k : Nat} (ni : i ∉ O) (nj : j ∉ O) (nk : k ∉ O) (hl : JA Z Er O tl ml) : JS Z Er O (tPar3 i j k tl) (sPar3 i j k ml) := fun σ H p ρ S D hE hS q =>
  hl σ H p ρ S _ hE hS (q.bndE.mono fun ds S1 H1 p1 e1 s1 q1 vs hv => by
    match ds, hv, q1 with
    | [a, b, c], hv, q1 =>
      obtain ⟨x, r, rfl, hx, hr⟩ := isDs_cons.mp hv
      obtain ⟨y, r2, rfl, hy, hr2⟩ := isDs_cons.mp hr
      obtain ⟨z, r3, rfl, hz, hr3⟩ := isDs_cons.mp hr2
      rw [isDs_nil.mp hr3]
      exact ⟨x, y, z, rfl, q1.pure xS s1 _ ((((hE.ext e1 hS).set ni hx).set nj hy).set nk hz)⟩
    | [], _, q1 => exact (show False from q1).elim
    | [_], _, q1 => exact (show False from q1).elim
    | [_, _], _, q1 => exact (show False from q1).elim
    | _ :: _ :: _ :: _ :: _, _, q1 => exact (show False from q1).elim)

/-! ### what is walked -/
/-- from (H0, p0) on, along X, the walk J gives the items ds, one after another -/
def Walks (Z : Cz) (X : XR) (Jt : It) (ds : List Dat) (H0 : Hp) (p0 : Pl) : Prop := ∀ H p S (i : Nat), X H0 p0 H p → IsS Z H p S →
  (i < ds.length → Jt.go i H ∧ ∀ x H', Jt.yld i H x H' → Same H H' ∧ ∃ d, ds[i]? = some d ∧ IsD Z H' p x d) ∧ (ds.length = i → Jt.stop i H)
def JI (Z : Cz) (Er : ErW) (O : List Nat) (X : XR) (wi : TI) (m : Env → M (List Dat)) : Prop :=
  ∀ (σ : L2.St) (H : Hp) (p : Pl) (ρ : Env) (S : List Dat) (R : It → Hp → Prop), IsE Z O H p σ ρ → IsS Z H p S → Post Z Er ExtE (m ρ S) H p (fun ds _ H' p' => ∀ Jt, Walks Z X Jt ds H' p' → R Jt H') → wi σ H R
def dLst : Dat → Option (List Dat)
  | .lst ds => some ds
  | _ => none
def dTup : Dat → Option (List Dat)
  | .tup ds => some ds
  | _ => none
theorem dLst_some {d : Dat} {ds : List Dat} (h : dLst d = some ds) : d = .lst ds := by
  cases d <;> first | (cases h; rfl) | cases h
theorem dTup_some {d : Dat} {ds : List Dat} (h : dTup d = some ds) : d = .tup ds := by
  cases d <;> first | (cases h; rfl) | cases h
def iLst (a : Env → M Dat) (ρ : Env) : M (List Dat) := a ρ >>= fun d => M.opt (dLst d)
def iTp (a : Env → M Dat) (ρ : Env) : M (List Dat) := a ρ >>= fun d => M.opt (dTup d)
theorem walks_list {X : XR} (x : XOk X) {H : Hp} {p : Pl} {a : Addr} {xs : List V} {ds : List Dat} (h : LstAt Z H p a xs) (hd : IsDs Z H p xs ds) : Walks Z X (Itl Z.K a) ds H p := fun H1 p1 S1 i e s => by
  have h1 := (h.ext (x.s e)).sq
  have hd1 := hd.ext (x.s e)
  refine ⟨fun lt => ?_, fun le => ⟨xs, h1, by rw [hd.len]; exact Nat.le_of_eq le⟩⟩
  have hi := List.getElem?_eq_getElem lt
  obtain ⟨v, g1, g2⟩ := hd1.get hi
  refine ⟨⟨xs, v, h1, g1⟩, fun y H' ⟨eq, k⟩ => ?_⟩
  subst eq
  have := k xs h1
  rw [g1] at this
  cases this
  exact ⟨Same.refl _, _, hi, g2⟩
theorem walks_tup {X : XR} (x : XOk X) {H : Hp} {p : Pl} {a : Addr} {xs : List V} {ds : List Dat} (h : TupAt Z H p a xs) (hd : IsDs Z H p xs ds) : Walks Z X (Itt Z.K a) ds H p := fun H1 p1 S1 i e s => by
  have h1 := (h.ext (x.s e)).sq
  have hd1 := hd.ext (x.s e)
  refine ⟨fun lt => ?_, fun le => ⟨xs, h1, by rw [hd.len]; exact Nat.le_of_eq le⟩⟩
  have hi := List.getElem?_eq_getElem lt
  obtain ⟨v, g1, g2⟩ := hd1.get hi
  refine ⟨⟨xs, v, h1, g1⟩, fun y H' ⟨eq, k⟩ => ?_⟩
  subst eq
  have := k xs h1
  rw [g1] at this
  cases this
  exact ⟨Same.refl _, _, hi, g2⟩
theorem ji_list {X : XR} (x : XOk X) (ha : JD Z Er O ta m1) : JI Z Er O X (iList Z.K ta) (iLst m1) := fun σ H p ρ S R hE hS q =>
  ha σ H p ρ S _ hE hS ((q.bnd xE).mono fun d S1 H1 p1 e1 s1 q1 v hv => by
    obtain ⟨ds, e, k⟩ := opt_pure xE q1 s1
    rw [dLst_some e] at hv
    obtain ⟨a, xs, rfl, h1, h2⟩ := isD_lst.mp hv
    exact ⟨a, rfl, ⟨xs, h1.sq⟩, k _ (walks_list x h1 h2)⟩)
theorem ji_tup {X : XR} (x : XOk X) (ha : JD Z Er O ta m1) : JI Z Er O X (iTup Z.K ta) (iTp m1) := fun σ H p ρ S R hE hS q =>
  ha σ H p ρ S _ hE hS ((q.bnd xE).mono fun d S1 H1 p1 e1 s1 q1 v hv => by
    obtain ⟨ds, e, k⟩ := opt_pure xE q1 s1
    rw [dTup_some e] at hv
    obtain ⟨a, xs, rfl, h1, h2⟩ := isD_tup.mp hv
    exact ⟨a, rfl, ⟨xs, h1.sq⟩, k _ (walks_tup x h1 h2)⟩)
/-- lo, lo + 1, .. -/
def intsD (lo : Int) (n : Nat) : List Dat := (List.range n).map fun (k : Nat) => Dat.int (lo + k)
theorem walks_rng {X : XR} {H : Hp} {p : Pl} {lo : Int} {n : Nat} : Walks Z X (Itr lo n) (intsD lo n) H p := fun H1 p1 S1 i e s => by
  unfold intsD
  rw [List.length_map, List.length_range]
  refine ⟨fun lt => ⟨lt, fun y H' ⟨eq, k⟩ => ?_⟩, fun le => Nat.le_of_eq le⟩
  subst eq k
  refine ⟨Same.refl _, _, ?_, isD_int.mpr rfl⟩
  rw [List.getElem?_map, List.getElem?_range lt]
  rfl
def iRg (l : Env → M (List Dat)) (ρ : Env) : M (List Dat) := l ρ >>= fun ds => match ds with
  | [.int j] => M.need (decide (-(2 ^ 62) ≤ j ∧ j < 2 ^ 62)) >>= fun _ => pure (intsD 0 j.toNat)
  | [.int i, .int j] => M.need (decide (-(2 ^ 62) ≤ i ∧ i < 2 ^ 62 ∧ -(2 ^ 62) ≤ j ∧ j < 2 ^ 62)) >>= fun _ => pure (intsD i (j - i).toNat)
  | _ => M.no
theorem ji_rng1 {X : XR} (hl : JA Z Er O tl ml) : JI Z Er O X (iRng1 tl) (fun ρ => ml ρ >>= fun ds => match ds with
    | [.int j] => M.need (decide (-(2 ^ 62) ≤ j ∧ j < 2 ^ 62)) >>= fun _ => pure (intsD 0 j.toNat)
    | _ => M.no) := fun σ H p ρ S R hE hS q =>
  hl σ H p ρ S _ hE hS ((q.bnd xE).mono fun ds S1 H1 p1 e1 s1 q1 vs hv => by
    split at q1
    · rename_i j
      obtain ⟨c, q2⟩ := q1.need
      obtain ⟨x, r, rfl, hx, hr⟩ := isDs_cons.mp hv
      rw [isDs_nil.mp hr, isD_int.mp hx]
      have c := of_decide_eq_true c
      exact ⟨j, rfl, c.1, c.2, q2.pure xE s1 _ walks_rng⟩
    · exact (show False from q1).elim)
theorem ji_rng2 {X : XR} (hl : JA Z Er O tl ml) : JI Z Er O X (iRng2 tl) (fun ρ => ml ρ >>= fun ds => match ds with
    | [.int i, .int j] => M.need (decide (-(2 ^ 62) ≤ i ∧ i < 2 ^ 62 ∧ -(2 ^ 62) ≤ j ∧ j < 2 ^ 62)) >>= fun _ => pure (intsD i (j - i).toNat)
    | _ => M.no) := fun σ H p ρ S R hE hS q =>
  hl σ H p ρ S _ hE hS ((q.bnd xE).mono fun ds S1 H1 p1 e1 s1 q1 vs hv => by
    split at q1
    · rename_i i j
      obtain ⟨c, q2⟩ := q1.need
      obtain ⟨x, r, rfl, hx, hr⟩ := isDs_cons.mp hv
      obtain ⟨y, r2, rfl, hy, hr2⟩ := isDs_cons.mp hr
      rw [isDs_nil.mp hr2, isD_int.mp hx, isD_int.mp hy]
      exact ⟨i, j, rfl, of_decide_eq_true c, q2.pure xE s1 _ walks_rng⟩
    · exact (show False from q1).elim)

/-! ### for -/
def forD (g : Env → Dat → Option Env) (b : Env → M Flow) : List Dat → Env → M Flow
  | [], ρ => pure (.nx ρ)
  | d :: ds, ρ => M.opt (g ρ d) >>= fun ρ1 => b ρ1 >>= fun f => match f with
    | .nx ρ2 => forD g b ds ρ2
    | .ct ρ2 => forD g b ds ρ2
    | .bk ρ2 => pure (.nx ρ2)
    | .rt d => pure (.rt d)
def sFor (it : Env → M (List Dat)) (g : Env → Dat → Option Env) (b : Env → M Flow) (ρ : Env) : M Flow := it ρ >>= fun ds => forD g b ds ρ
theorem drop_cons {α : Type} {l : List α} {i : Nat} (h : i < l.length) : l.drop i = l[i] :: l.drop (i + 1) := List.drop_eq_getElem_cons h
theorem js_for {wi : TI} {it : Env → M (List Dat)} {g : TG} {gm : Env → Dat → Option Env} (hi : JI Z Er O Ext wi it) (hg : JG Z O g gm none) (hb : JS Z Er O ts ms) : JS Z Er O (tFor wi g ts) (sFor it gm ms) := fun σ H p ρ S D hE hS q =>
  hi σ H p ρ S _ hE hS (q.bndE.mono fun ds S1 H1 p1 e1 s1 q1 Jt hJ => by
    refine ⟨fun i n σ' H' => n = ds.length - i ∧ i ≤ ds.length ∧ ∃ p' ρ' S', Ext H1 p1 H' p' ∧ IsE Z O H' p' σ' ρ' ∧ IsS Z H' p' S' ∧ Post Z Er Ext (forD gm ms (ds.drop i) ρ' S') H' p' (fun f _ H' p' => FlowOk Z O D f H' p'),
      ⟨_, rfl, Nat.zero_le _, p1, ρ, S1, Ext.refl, hE.ext e1 hS, s1, q1⟩, ?_⟩
    rintro i n σ' H' ⟨rfl, le, p', ρ', S', ex, hE', hS', q'⟩
    by_cases lt : i < ds.length
    · have W := (hJ H' p' S' i ex hS').1 lt
      refine .inr ⟨W.1, fun σ2 H2 => ∃ p2 ρ2 S2, Ext H1 p1 H2 p2 ∧ IsE Z O H2 p2 σ2 ρ2 ∧ IsS Z H2 p2 S2 ∧ Post Z Er Ext (forD gm ms (ds.drop (i + 1)) ρ2 S2) H2 p2 (fun f _ H' p' => FlowOk Z O D f H' p'),
        fun σ2 H2 ⟨p2, ρ2, S2, a, b, c, d⟩ => ⟨_, by omega, rfl, lt, p2, ρ2, S2, a, b, c, d⟩, fun x Hx y => ?_⟩
      obtain ⟨sm, d, ed, hd⟩ := W.2 x Hx y
      have ed' : ds[i] = d := by
        rw [List.getElem?_eq_getElem lt] at ed
        exact Option.some.inj ed
      rw [drop_cons lt, ed'] at q'
      have eN : ExtE H' p' Hx p' := ExtE.same sm
      have q2 : Post Z Er Ext (forD gm ms (d :: ds.drop (i + 1)) ρ' S') Hx p' (fun f _ H' p' => FlowOk Z O D f H' p') := by
        unfold Post at q' ⊢
        cases z : forD gm ms (d :: ds.drop (i + 1)) ρ' S' with
        | ok a S2 => rw [z] at q'; exact fun H3 p3 e3 s3 => q' H3 p3 (eN.s.trans e3) s3
        | er a b S2 => rw [z] at q'; exact fun H3 p3 e3 s3 => q' H3 p3 (eN.s.trans e3) s3
        | bad => rw [z] at q'; exact q'
      obtain ⟨ρ1, e, q3⟩ := q2.opt
      refine hg x σ' Hx p' ρ' d _ (hE'.ext eN hS') hd ⟨ρ1, e, fun σ1 hE1 _ => hb σ1 Hx p' ρ1 S' _ hE1 (hS'.ext sm) ((q3.bnd xS).mono fun f S2 H2 p2 e2 s2 q4 => ?_)⟩
      have exx := (ex.trans eN.s).trans e2
      cases f with
      | nx ρ2 => exact fun σ2 hE2 => ⟨p2, ρ2, S2, exx, hE2, s2, q4⟩
      | ct ρ2 => exact fun σ2 hE2 => ⟨p2, ρ2, S2, exx, hE2, s2, q4⟩
      | bk ρ2 => exact fun σ2 hE2 => Post.pure xS q4 s2 σ2 hE2
      | rt d2 => exact fun v hv => Post.pure xS q4 s2 v hv
    · have e : i = ds.length := by omega
      subst e
      rw [List.drop_length] at q'
      exact .inl ⟨(hJ H' p' S' _ ex hS').2 rfl, Post.pure xS q' hS' σ' hE'⟩)

/-! ### comprehensions -/
def compD (g : Env → Dat → Option Env) (c : Env → M Bool) (e : Env → M Dat) (ρ : Env) : List Dat → M (List Dat)
  | [] => pure []
  | d :: ds => M.opt (g ρ d) >>= fun ρ1 => c ρ1 >>= fun b => if b = true then e ρ1 >>= fun x => compD g c e ρ ds >>= fun xs => pure (x :: xs) else compD g c e ρ ds
def xLc (it : Env → M (List Dat)) (g : Env → Dat → Option Env) (c : Env → M Bool) (e : Env → M Dat) (vs : List Nat) (ρ : Env) : M Dat :=
  it ρ >>= fun ds => M.need (decide (ds.length ≤ 100000)) >>= fun _ => compD g c e (wipeE ρ vs) ds >>= fun es => pure (.lst es)
theorem Post.up {α : Type} {o : Out α} {H : Hp} {p : Pl} {C : α → List Dat → Hp → Pl → Prop} {X : XR} (x : XOk X) (q : Post Z Er X o H p C) {H' : Hp} {p' : Pl} (e : X H p H' p') : Post Z Er X o H' p' C := by
  unfold Post at q ⊢
  cases o with
  | ok a S2 => exact fun H3 p3 e3 s3 => q H3 p3 (x.trans e e3) s3
  | er a b S2 => exact fun H3 p3 e3 s3 => q H3 p3 (x.trans e e3) s3
  | bad => exact q
/-- as in an expression, but for new own places -/
structure ExtC (H : Hp) (p : Pl) (H' : Hp) (p' : Pl) : Prop where
  α : ∃ β, p'.α = p.α ++ β ∧ ∀ b ∈ β, H b = none
  ω : ∃ β, p'.ω = p.ω ++ β ∧ ∀ b ∈ β, H b = none
  γ : p'.γ = p.γ
  k : ∀ a o, H a = some o → a ∉ p.α → H' a = some o
  t : ∀ a, H a ≠ none → H' a ≠ none
theorem ExtC.s {H H' : Hp} {p p' : Pl} (e : ExtC H p H' p') : Ext H p H' p' := ⟨e.α, e.ω, e.γ, fun a o h n _ => e.k a o h n, e.t⟩
theorem ExtE.c {H H' : Hp} {p p' : Pl} (e : ExtE H p H' p') : ExtC H p H' p' := ⟨e.α, ⟨[], by rw [e.ω, List.append_nil], by simp⟩, e.γ, e.k, e.t⟩
theorem xCo : XOk ExtC := ⟨ExtE.refl.c, fun e f => ⟨fresh_app e.t e.α f.α, fresh_app e.t e.ω f.ω, f.γ.trans e.γ, fun a o h n => f.k a o (e.k a o h n) (not_fresh e.α h n), fun a h => f.t a (e.t a h)⟩, ExtE.c, ExtC.s⟩
mutual
theorem IsD.mv {H : Hp} {p p' : Pl} (e : ∀ (n : Nat) (x : Addr), p.α[n]? = some x → p'.α[n]? = some x) (l : ∀ a, p'.has a → p.has a) : ∀ (d : Dat) {v : V}, IsD Z H p v d → IsD Z H p' v d
  | .non, _, h => by unfold IsD at h ⊢; exact h
  | .bl b, _, h => by unfold IsD at h ⊢; exact h
  | .int i, _, h => by unfold IsD at h ⊢; exact h
  | .str x, _, h => by unfold IsD at h ⊢; exact h
  | .ty n, _, h => by unfold IsD at h ⊢; exact h
  | .cls c, _, h => by unfold IsD at h ⊢; exact h
  | .scr ns, _, h => by
    obtain ⟨a, rfl, h1⟩ := isD_scr.mp h
    exact isD_scr.mpr ⟨a, rfl, h1.imp (fun q => ⟨q.1, fun z => q.2 (l a z)⟩) id⟩
  | .tup ds, _, h => by
    obtain ⟨a, vs, rfl, h1, h2⟩ := isD_tup.mp h
    exact isD_tup.mpr ⟨a, vs, rfl, h1.imp (fun q => ⟨q.1, fun z => q.2 (l a z)⟩) id, IsDs.mv e l ds h2⟩
  | .lst ds, _, h => by
    obtain ⟨a, vs, rfl, h1, h2⟩ := isD_lst.mp h
    exact isD_lst.mpr ⟨a, vs, rfl, ⟨h1.1, fun z => h1.2 (l a z)⟩, IsDs.mv e l ds h2⟩
  | .dic ks ds, _, h => by
    obtain ⟨a, vs, rfl, h1, hl, h2⟩ := isD_dic.mp h
    exact isD_dic.mpr ⟨a, vs, rfl, ⟨h1.1, fun z => h1.2 (l a z)⟩, hl, IsDs.mv e l ds h2⟩
  | .obj c fs ds, _, h => by
    obtain ⟨a, vs, rfl, h1, hl, h2⟩ := isD_obj.mp h
    exact isD_obj.mpr ⟨a, vs, rfl, ⟨h1.1, fun z => h1.2 (l a z)⟩, hl, IsDs.mv e l ds h2⟩
  | .loc n, _, h => by
    obtain ⟨a, rfl, h1⟩ := isD_loc.mp h
    exact isD_loc.mpr ⟨a, rfl, e _ _ h1⟩
theorem IsDs.mv {H : Hp} {p p' : Pl} (e : ∀ (n : Nat) (x : Addr), p.α[n]? = some x → p'.α[n]? = some x) (l : ∀ a, p'.has a → p.has a) : ∀ (ds : List Dat) {vs : List V}, IsDs Z H p vs ds → IsDs Z H p' vs ds
  | [], _, h => isDs_nil.mpr (isDs_nil.mp h)
  | d :: ds, _, h => by
    obtain ⟨v, r, rfl, h1, h2⟩ := isDs_cons.mp h
    exact isDs_cons.mpr ⟨v, r, rfl, IsD.mv e l d h1, IsDs.mv e l ds h2⟩
end
theorem IsD.less {H : Hp} {p p' : Pl} (e : p'.α = p.α) (l : ∀ a, p'.has a → p.has a) (d : Dat) {v : V} (h : IsD Z H p v d) : IsD Z H p' v d := IsD.mv (fun _ _ q => by rw [e]; exact q) l d h
theorem IsDs.less {H : Hp} {p p' : Pl} (e : p'.α = p.α) (l : ∀ a, p'.has a → p.has a) (ds : List Dat) {vs : List V} (h : IsDs Z H p vs ds) : IsDs Z H p' vs ds := IsDs.mv (fun _ _ q => by rw [e]; exact q) l ds h
theorem IsTop.mv {H : Hp} {p p' : Pl} (e : ∀ (n : Nat) (x : Addr), p.α[n]? = some x → p'.α[n]? = some x) (l : ∀ a, p'.has a → p.has a) {a : Addr} {d : Dat} (h : IsTop Z H p a d) : IsTop Z H p' a d := by
  cases d with
  | lst ds => obtain ⟨vs, e1, h1⟩ := h; exact ⟨vs, e1, IsDs.mv e l _ h1⟩
  | dic ks ds => obtain ⟨vs, e1, n, h1⟩ := h; exact ⟨vs, e1, n, IsDs.mv e l _ h1⟩
  | obj c fs ds => obtain ⟨dx, vs, e1, n, h1⟩ := h; exact ⟨dx, vs, e1, n, IsDs.mv e l _ h1⟩
  | _ => exact h.elim
theorem IsTop.less {H : Hp} {p p' : Pl} (e : p'.α = p.α) (l : ∀ a, p'.has a → p.has a) {a : Addr} {d : Dat} (h : IsTop Z H p a d) : IsTop Z H p' a d := by
  cases d with
  | lst ds => obtain ⟨vs, e1, h1⟩ := h; exact ⟨vs, e1, IsDs.less e l _ h1⟩
  | dic ks ds => obtain ⟨vs, e1, n, h1⟩ := h; exact ⟨vs, e1, n, IsDs.less e l _ h1⟩
  | obj c fs ds => obtain ⟨dx, vs, e1, n, h1⟩ := h; exact ⟨dx, vs, e1, n, IsDs.less e l _ h1⟩
  | _ => exact h.elim
/-- fewer own places -/
theorem IsS.less {H : Hp} {p : Pl} {S : List Dat} (s : IsS Z H p S) {ω : List Addr} (l : ∀ a ∈ ω, a ∈ p.ω) : IsS Z H ⟨p.α, ω, p.γ⟩ S :=
  have l2 : ∀ a, (⟨p.α, ω, p.γ⟩ : Pl).has a → p.has a := fun a h => h.imp id fun h => h.imp (l a) id
  ⟨s.len, s.nd, fun a h => s.dj a (l a h), s.dg, fun a h => s.wt a (h.imp (l a) id), fun n a d h1 h2 => IsTop.less (p := p) (p' := ⟨p.α, ω, p.γ⟩) rfl l2 (s.at_ n a d h1 h2)⟩
/-- a new own place -/
theorem ExtC.plus {H H1 : Hp} {p : Pl} {D : Addr} {α' : List Addr} (e : ExtE H p H1 ⟨α', p.ω, p.γ⟩) (nD : H D = none) : ExtC H p H1 ⟨α', p.ω ++ [D], p.γ⟩ :=
  ⟨e.α, ⟨[D], rfl, fun b h => by rw [List.mem_singleton.mp h]; exact nD⟩, rfl, e.k, e.t⟩
theorem Post.plus {α : Type} {o : Out α} {H : Hp} {p : Pl} {C : α → List Dat → Hp → Pl → Prop} (q : Post Z Er ExtE o H p C) {D : Addr} : Post Z Er ExtE o H ⟨p.α, p.ω ++ [D], p.γ⟩ (fun a S' H' p' => C a S' H' ⟨p'.α, p.ω, p'.γ⟩) := by
  have key : ∀ H' p' S', ExtE H ⟨p.α, p.ω ++ [D], p.γ⟩ H' p' → IsS Z H' p' S' → ExtE H p H' ⟨p'.α, p.ω, p'.γ⟩ ∧ IsS Z H' ⟨p'.α, p.ω, p'.γ⟩ S' := fun H' p' S' e s =>
    ⟨⟨e.α, rfl, e.γ, e.k, e.t⟩, s.less fun a h => by rw [e.ω]; exact List.mem_append_left _ h⟩
  unfold Post at q ⊢
  cases o with
  | ok a S2 => exact fun H' p' e s => q H' ⟨p'.α, p.ω, p'.γ⟩ (key H' p' S2 e s).1 (key H' p' S2 e s).2
  | er a b S2 => exact fun H' p' e s => q H' ⟨p'.α, p.ω, p'.γ⟩ (key H' p' S2 e s).1 (key H' p' S2 e s).2
  | bad => exact q
/-- the own place D is written, which no slot has -/
theorem IsE.put {H : Hp} {p : Pl} {σ : L2.St} {ρ : Env} (h : IsE Z O H p σ ρ) {D : Addr} {o : HO} (hD : D ∈ p.ω) (n : ∀ i ∈ O, σ[i]? ≠ some (some (.ref D))) : IsE Z O (L2.upd H D o) p σ ρ := by
  have e : Ext H p (L2.upd H D o) p := ⟨⟨[], by simp⟩, ⟨[], by simp⟩, rfl, fun a u e n1 n2 => by rw [upd_ne fun z => n2 (by rw [z]; exact hD)]; exact e, fun a na => by
    by_cases c : a = D
    · rw [c, upd_same]; exact nofun
    · rw [upd_ne c]; exact na⟩
  refine ⟨h.len, fun i d ni q => ?_, fun i d oi q => ?_, h.dj⟩
  · obtain ⟨v, h1, h2⟩ := h.get i d ni q
    exact ⟨v, h1, h2.ext e⟩
  · obtain ⟨a, h1, h2, h3⟩ := h.own i d oi q
    exact ⟨a, h1, h2, h3.ext e fun u z => by rw [upd_ne fun c => n i oi (by rw [← c]; exact h1)]; exact z⟩
theorem IsS.put {H : Hp} {p : Pl} {S : List Dat} (s : IsS Z H p S) {D : Addr} {o : HO} (hD : D ∈ p.ω) : IsS Z (L2.upd H D o) p S := by
  have e : Ext H p (L2.upd H D o) p := ⟨⟨[], by simp⟩, ⟨[], by simp⟩, rfl, fun a u e n1 n2 => by rw [upd_ne fun z => n2 (by rw [z]; exact hD)]; exact e, fun a na => by
    by_cases c : a = D
    · rw [c, upd_same]; exact nofun
    · rw [upd_ne c]; exact na⟩
  exact ⟨s.len, s.nd, s.dj, s.dg, fun a h => e.t a (s.wt a h), fun n a d h1 h2 => (s.at_ n a d h1 h2).ext e fun u z => by rw [upd_ne fun c => (s.dj D hD).1 (by rw [← c]; exact List.mem_of_getElem? h1)]; exact z⟩
theorem ext_put {H : Hp} {p : Pl} {D : Addr} {o : HO} (hD : D ∈ p.ω) : Ext H p (L2.upd H D o) p := ⟨⟨[], by simp⟩, ⟨[], by simp⟩, rfl, fun a u e n1 n2 => by rw [upd_ne fun z => n2 (by rw [z]; exact hD)]; exact e, fun a na => by
    by_cases c : a = D
    · rw [c, upd_same]; exact nofun
    · rw [upd_ne c]; exact na⟩
/-- a new own place comes into being -/
theorem own_new {H : Hp} {p : Pl} {S : List Dat} {σ : L2.St} {ρ : Env} (hE : IsE Z O H p σ ρ) (hS : IsS Z H p S) {D : Addr} {o : HO} (nD : H D = none) : IsE Z O (L2.upd H D o) ⟨p.α, p.ω ++ [D], p.γ⟩ σ ρ ∧ IsS Z (L2.upd H D o) ⟨p.α, p.ω ++ [D], p.γ⟩ S := by
  have e : Ext H p (L2.upd H D o) ⟨p.α, p.ω ++ [D], p.γ⟩ := (ExtC.plus (ExtE.new nD) nD).s
  have hD := no_has hS nD
  refine ⟨⟨hE.len, fun i d ni q => ?_, fun i d oi q => ?_, hE.dj⟩, ⟨hS.len, hS.nd, fun a h => ?_, hS.dg, fun a h => ?_, fun n a d h1 h2 => ?_⟩⟩
  · obtain ⟨v, h1, h2⟩ := hE.get i d ni q
    exact ⟨v, h1, h2.ext e⟩
  · obtain ⟨a, h1, h2, h3⟩ := hE.own i d oi q
    exact ⟨a, h1, List.mem_append_left _ h2, h3.ext e fun u z => (upd_ne (ne_of_none z nD)).trans z⟩
  · rcases List.mem_append.mp h with h | h
    · exact hS.dj a h
    · rw [List.mem_singleton.mp h]
      exact ⟨fun z => hD (.inl z), fun z => hD (.inr (.inr z))⟩
  · rcases h with h | h
    · rcases List.mem_append.mp h with h | h
      · exact e.t a (hS.wt a (.inl h))
      · rw [List.mem_singleton.mp h, upd_same]
        exact nofun
    · exact e.t a (hS.wt a (.inr h))
  · exact (hS.at_ n a d h1 h2).ext e fun u z => (upd_ne (ne_of_none z nD)).trans z
theorem jf_lc {wi : TI} {it : Env → M (List Dat)} {g : TG} {gm : Env → Dat → Option Env} {vs : List Nat} (hi : JI Z Er O ExtC wi it) (hg : JG Z O g gm (some vs)) (hc : JB Z Er O tt mb) (he : JD Z Er O te m) : JF Z Er O (tLc wi g tt te vs) (xLc it gm mb m vs) := fun σ H p ρ S Q hE hS q =>
  hi σ H p ρ S _ hE hS ((q.bnd xE).mono fun ds S1 H1 p1 e1 s1 q1 Jt hJ => by
    obtain ⟨few, q2⟩ := q1.need
    have few : ds.length ≤ 100000 := of_decide_eq_true few
    have sz := sizeLine_eq
    intro D nD
    have hE1 := hE.ext e1 hS
    have noD : ∀ i ∈ O, σ[i]? ≠ some (some (.ref D)) ∨ ρ[i]? = none ∨ ρ[i]? = some none := fun i oi => by
      cases z : ρ[i]? with
      | none => exact .inr (.inl rfl)
      | some w =>
        cases w with
        | none => exact .inr (.inr rfl)
        | some d =>
          left
          obtain ⟨a, h1, h2, h3⟩ := hE1.own i d oi z
          rw [h1]
          intro c
          cases c
          exact s1.wt D (.inl h2) nD
    refine ⟨fun i n H' => n = ds.length - i ∧ i ≤ ds.length ∧ ∃ α' S' acc es, IsE Z O H' ⟨α', p1.ω ++ [D], p1.γ⟩ σ ρ ∧ IsS Z H' ⟨α', p1.ω ++ [D], p1.γ⟩ S' ∧ H' D = some (.lst acc) ∧ acc.length ≤ i ∧ IsDs Z H' ⟨α', p1.ω ++ [D], p1.γ⟩ acc es ∧ ExtE H1 p1 H' ⟨α', p1.ω, p1.γ⟩ ∧
        Post Z Er ExtE (compD gm mb m (wipeE ρ vs) (ds.drop i) S') H1 p1 (fun xs S'' H'' p'' => ∀ ws, H'' D = some (.lst ws) → ¬ p''.has D → IsS Z H'' ⟨p''.α, p''.ω ++ [D], p''.γ⟩ S'' → IsDs Z H'' ⟨p''.α, p''.ω ++ [D], p''.γ⟩ ws (es ++ xs) → Q (.ref D) H''), ?_, ?_⟩
    · obtain ⟨hE2, hS2⟩ := own_new (o := .lst []) hE1 s1 nD
      refine ⟨_, rfl, Nat.zero_le _, p1.α, S1, [], [], hE2, hS2, upd_same, Nat.le_refl _, isDs_nil.mpr rfl, ExtE.new nD, ?_⟩
      refine (q2.bnd xE).mono fun xs S'' H'' p'' e s q ws hD nh hs hws => ?_
      exact q.pure xE s D (back_of e1.t nD) (by rw [hD]; exact nofun) nh hs ⟨ws, hD, hws⟩
    · rintro i n H' ⟨rfl, le, α', S', acc, es, hE', hS', hD, la, hacc, ex, q'⟩
      have mD : D ∈ p1.ω ++ [D] := List.mem_append_right _ (List.mem_singleton.mpr rfl)
      have exC : ExtC H1 p1 H' ⟨α', p1.ω ++ [D], p1.γ⟩ := ExtC.plus ex nD
      by_cases lt : i < ds.length
      · have W := (hJ H' _ S' i exC hS').1 lt
        refine .inr ⟨W.1, fun H2 => ∃ α' S' acc es, IsE Z O H2 ⟨α', p1.ω ++ [D], p1.γ⟩ σ ρ ∧ IsS Z H2 ⟨α', p1.ω ++ [D], p1.γ⟩ S' ∧ H2 D = some (.lst acc) ∧ acc.length ≤ i + 1 ∧ IsDs Z H2 ⟨α', p1.ω ++ [D], p1.γ⟩ acc es ∧ ExtE H1 p1 H2 ⟨α', p1.ω, p1.γ⟩ ∧
            Post Z Er ExtE (compD gm mb m (wipeE ρ vs) (ds.drop (i + 1)) S') H1 p1 (fun xs S'' H'' p'' => ∀ ws, H'' D = some (.lst ws) → ¬ p''.has D → IsS Z H'' ⟨p''.α, p''.ω ++ [D], p''.γ⟩ S'' → IsDs Z H'' ⟨p''.α, p''.ω ++ [D], p''.γ⟩ ws (es ++ xs) → Q (.ref D) H''),
          fun H2 ⟨a, b, c, d, r⟩ => ⟨_, by omega, rfl, lt, a, b, c, d, r⟩, fun x Hx y => ?_⟩
        obtain ⟨sm, d, ed, hd⟩ := W.2 x Hx y
        have ed' : ds[i] = d := by
          rw [List.getElem?_eq_getElem lt] at ed
          exact Option.some.inj ed
        rw [drop_cons lt, ed'] at q'
        have eN : ∀ p, ExtE H' p Hx p := fun p => ExtE.same sm
        obtain ⟨ρ1, e, q3⟩ := q'.opt
        have hEx := hE'.ext (eN _) hS'
        refine hg x _ Hx _ _ d _ (hEx.wipe vs) hd ⟨ρ1, e, fun σ1 hE1' wi => ⟨(wi vs rfl).trans (wipe_wipe σ vs), ?_⟩⟩
        refine hc σ1 Hx _ ρ1 S' _ hE1' (hS'.ext sm) ((q3.bndK.up xE (ex.trans (eN _))).plus.mono fun b S2 H2 p2 e2 s2 q4 c hcb => ?_)
        subst hcb
        have ex2 : ExtE H1 p1 H2 ⟨p2.α, p1.ω, p1.γ⟩ := by
          have z := (ex.trans (eN _))
          refine z.trans ⟨e2.α, rfl, rfl, e2.k, e2.t⟩
        have ep2 : p2 = ⟨p2.α, p1.ω ++ [D], p1.γ⟩ := by
          have h1 := e2.ω
          have h2 := e2.γ
          cases p2
          cases h1
          cases h2
          rfl
        have nDα : D ∉ p2.α := (s2.dj D (by rw [e2.ω]; exact mD)).1
        have eH2 : ExtE H' ⟨α', p1.ω ++ [D], p1.γ⟩ H2 p2 := (eN _).trans e2
        have hE2 : IsE Z O H2 p2 σ ρ := hE'.ext eH2 hS'
        have hD2 : H2 D = some (.lst acc) := eH2.k D _ hD (hS'.dj D mD).1
        have hacc2 := hacc.ext eH2.s
        cases c with
        | true =>
          show te σ1 H2 _
          have q5 : Post Z Er ExtE ((m ρ1 >>= fun x => compD gm mb m (wipeE ρ vs) (ds.drop (i + 1)) >>= fun xs => pure (x :: xs)) S2) H1 p1 _ := q4
          have q6 := (q5.bndK.up xE ex2).plus (D := D)
          have e23 : (⟨p2.α, p1.ω ++ [D], p1.γ⟩ : Pl) = p2 := by rw [ep2]
          rw [e23] at q6
          refine he σ1 H2 p2 ρ1 S2 _ (hE1'.ext e2 (hS'.ext sm)) s2 (q6.mono fun x3 S3 H3 p3 e3 s3 q7 v hv => ?_)
          have ep3 : p3 = ⟨p3.α, p1.ω ++ [D], p1.γ⟩ := by
            have h1 := e3.ω
            have h2 := e3.γ
            rw [ep2] at h1 h2
            cases p3
            cases h1
            cases h2
            rfl
          have mD3 : D ∈ p3.ω := by rw [ep3]; exact mD
          have hD3 : H3 D = some (.lst acc) := e3.k D _ hD2 nDα
          have hacc3 := hacc2.ext e3.s
          have hE3 := hE2.ext e3 s2
          have noO : ∀ (i : Nat) (d : Dat), i ∈ O → ρ[i]? = some (some d) → σ[i]? ≠ some (some (.ref D)) := fun i d oi z => by
            rcases noD i oi with h | h | h
            · exact h
            · rw [h] at z; cases z
            · rw [h] at z; cases z
          have ePut : Ext H3 p3 (L2.upd H3 D (.lst (acc ++ [v]))) p3 := ext_put mD3
          refine ⟨acc, hD3, by omega, p3.α, S3, acc ++ [v], es ++ [x3], ?_, ?_, upd_same, by rw [List.length_append, List.length_singleton]; omega, ?_, ?_, ?_⟩
          · rw [← ep3]
            refine ⟨hE3.len, fun j d nj z => ?_, fun j d oj z => ?_, hE3.dj⟩
            · obtain ⟨v, h1, h2⟩ := hE3.get j d nj z
              exact ⟨v, h1, h2.ext ePut⟩
            · obtain ⟨a, h1, h2, h3⟩ := hE3.own j d oj z
              exact ⟨a, h1, h2, h3.ext ePut fun u zz => by rw [upd_ne fun c => noO j d oj z (by rw [← c]; exact h1)]; exact zz⟩
          · rw [← ep3]
            exact s3.put mD3
          · rw [← ep3]
            exact (hacc3.append (.one hv)).ext ePut
          · have z : ExtE H1 p1 H3 ⟨p3.α, p1.ω, p1.γ⟩ := ex2.trans ⟨e3.α, rfl, rfl, e3.k, e3.t⟩
            exact ⟨z.α, rfl, rfl, fun a o h n => by rw [upd_ne (ne_of_none h nD)]; exact z.k a o h n, fun a n => by rw [upd_ne fun c => n (by rw [c]; exact nD)]; exact z.t a n⟩
          · refine q7.bndK.mono fun xs S'' H'' p'' e s q ws hDw nh hs hws => ?_
            refine q H'' p'' e s ws hDw nh hs ?_
            rw [List.append_assoc] at hws
            exact hws
        | false =>
          have q5 : Post Z Er ExtE (compD gm mb m (wipeE ρ vs) (ds.drop (i + 1)) S2) H1 p1 _ := q4
          exact ⟨p2.α, S2, acc, es, by rw [← ep2]; exact hE2, by rw [← ep2]; exact s2, hD2, by omega, by rw [← ep2]; exact hacc2, ex2, q5⟩
      · have e : i = ds.length := by omega
        subst e
        rw [List.drop_length] at q'
        refine .inl ⟨(hJ H' _ S' _ exC hS').2 rfl, ?_⟩
        have hS3 := hS'.less (ω := p1.ω) fun a h => List.mem_append_left _ h
        have nh : ¬ (⟨α', p1.ω, p1.γ⟩ : Pl).has D := by
          rintro (h | h | h)
          · exact (hS'.dj D mD).1 h
          · exact s1.wt D (.inl h) nD
          · exact s1.wt D (.inr h) nD
        refine q' H' _ ex hS3 acc hD nh hS' ?_
        rw [List.append_nil]
        exact hacc)
theorem IsDs.unplus {H : Hp} {p : Pl} {a : Addr} {vs : List V} {ds : List Dat} (h : IsDs Z H ⟨p.α, p.ω ++ [a], p.γ⟩ vs ds) : IsDs Z H p vs ds :=
  have l2 : ∀ b, p.has b → (⟨p.α, p.ω ++ [a], p.γ⟩ : Pl).has b := fun b h => h.imp id fun h => h.imp (List.mem_append_left _) id
  IsDs.less (p := ⟨p.α, p.ω ++ [a], p.γ⟩) (p' := p) rfl l2 _ h
theorem IsTop.isD {H : Hp} {p : Pl} {a : Addr} {d : Dat} (nh : ¬ p.has a) (h : IsTop Z H ⟨p.α, p.ω ++ [a], p.γ⟩ a d) : IsD Z H p (.ref a) d := by
  cases d with
  | lst ds => obtain ⟨vs, e1, h1⟩ := h; exact isD_lst.mpr ⟨a, vs, rfl, ⟨e1, nh⟩, h1.unplus⟩
  | dic ks ds => obtain ⟨vs, e1, n, h1⟩ := h; exact isD_dic.mpr ⟨a, vs, rfl, ⟨e1, nh⟩, n, h1.unplus⟩
  | obj c fs ds => obtain ⟨dx, vs, e1, n, h1⟩ := h; exact isD_obj.mpr ⟨a, vs, rfl, ⟨⟨dx, e1⟩, nh⟩, n, h1.unplus⟩
  | _ => exact h.elim
theorem JF.d (h : JF Z Er O te m) : JD Z Er O te m := fun σ H p ρ S Q hE hS q => h σ H p ρ S Q hE hS (q.mono fun d S' H' p' _ _ k a _ _ nh _ t => k _ (t.isD nh))
theorem j_lc {wi : TI} {it : Env → M (List Dat)} {g : TG} {gm : Env → Dat → Option Env} {vs : List Nat} (hi : JI Z Er O ExtC wi it) (hg : JG Z O g gm (some vs)) (hc : JB Z Er O tt mb) (he : JD Z Er O te m) : JD Z Er O (tLc wi g tt te vs) (xLc it gm mb m vs) := (jf_lc hi hg hc he).d
theorem jf_lst (hl : JA Z Er O tl ml) : JF Z Er O (tLst tl) (xLst ml) := fun σ H p ρ S Q hE hS q =>
  hl σ H p ρ S _ hE hS ((q.bnd xE).mono fun ds S1 H1 p1 e1 s1 q1 vs hv => by
    obtain ⟨c, q2⟩ := q1.need
    refine ⟨few (by rw [hv.len]; exact of_decide_eq_true c), fun a na => q2.at_new s1 na a (back_of e1.t na) (by rw [upd_same]; exact nofun) (no_has s1 na) (own_new (hE.ext e1 hS) s1 na).2 ⟨vs, upd_same, ?_⟩⟩
    exact hv.ext (ExtC.plus (ExtE.new na) na).s)
def xDic0 (_ : Env) : M Dat := pure (.dic [] [])
theorem jf_dic0 : JF Z Er O tDNewK xDic0 := fun σ H p ρ S Q hE hS q a na => q.at_new hS na a na (by rw [upd_same]; exact nofun) (no_has hS na) (own_new hE hS na).2 ⟨[], upd_same, rfl, isDs_nil.mpr rfl⟩
end
end Zd

namespace Zd
open PySem PySem.Spec PyProof.Rows L2

/-! ### trees as the library's data -/
mutual
def toPy : Dat → Option PyData
  | .non => some .none
  | .bl b => some (.bool b)
  | .int i => some (.int i)
  | .str x => some (.str x)
  | .tup ds => (toPys ds).map .tuple
  | .lst ds => (toPys ds).map .list
  | _ => none
def toPys : List Dat → Option (List PyData)
  | [] => some []
  | d :: ds => (toPy d).bind fun x => (toPys ds).map (x :: ·)
end
section
variable {Z : Cz} {H : Hp} {p : Pl}
theorem toPys_cons {d : Dat} {ds : List Dat} {ys : List PyData} (h : toPys (d :: ds) = some ys) : ∃ x xs, toPy d = some x ∧ toPys ds = some xs ∧ ys = x :: xs := by
  rw [toPys] at h
  cases e : toPy d with
  | none => rw [e] at h; cases h
  | some x =>
    cases e2 : toPys ds with
    | none => rw [e, e2] at h; cases h
    | some xs => rw [e, e2] at h; cases h; exact ⟨x, xs, rfl, rfl, rfl⟩
mutual
theorem IsD.dp : ∀ (d : Dat) {v : V} {y : PyData}, IsD Z H p v d → toPy d = some y → Dp Z.K H v y
  | .non, _, _, h, e => by rw [toPy] at e; cases e; rw [isD_non.mp h]; exact .non
  | .bl b, _, _, h, e => by rw [toPy] at e; cases e; rw [isD_bl.mp h]; exact .bl b
  | .int i, _, _, h, e => by rw [toPy] at e; cases e; rw [isD_int.mp h]; exact .int i
  | .str x, _, _, h, e => by rw [toPy] at e; cases e; rw [isD_str.mp h]; exact .str x
  | .tup ds, _, y, h, e => by
    obtain ⟨a, vs, rfl, h1, h2⟩ := isD_tup.mp h
    rw [toPy] at e
    cases e2 : toPys ds with
    | none => rw [e2] at e; cases e
    | some ys => rw [e2] at e; cases e; exact .tup h1.sq (IsDs.dp ds h2 e2)
  | .lst ds, _, y, h, e => by
    obtain ⟨a, vs, rfl, h1, h2⟩ := isD_lst.mp h
    rw [toPy] at e
    cases e2 : toPys ds with
    | none => rw [e2] at e; cases e
    | some ys => rw [e2] at e; cases e; exact .lst h1.sq (IsDs.dp ds h2 e2)
  | .dic _ _, _, _, _, e => by rw [toPy] at e <;> first | cases e | nofun
  | .obj _ _ _, _, _, _, e => by rw [toPy] at e <;> first | cases e | nofun
  | .loc _, _, _, _, e => by rw [toPy] at e <;> first | cases e | nofun
  | .ty _, _, _, _, e => by rw [toPy] at e <;> first | cases e | nofun
  | .cls _, _, _, _, e => by rw [toPy] at e <;> first | cases e | nofun
  | .scr _, _, _, _, e => by rw [toPy] at e <;> first | cases e | nofun
theorem IsDs.dp : ∀ (ds : List Dat) {vs : List V} {ys : List PyData}, IsDs Z H p vs ds → toPys ds = some ys → DpAll Z.K H vs ys
  | [], _, _, h, e => by rw [toPys] at e; cases e; rw [isDs_nil.mp h]; exact .nil
  | d :: ds, _, _, h, e => by
    obtain ⟨v, r, rfl, h1, h2⟩ := isDs_cons.mp h
    obtain ⟨x, xs, e1, e2, rfl⟩ := toPys_cons e
    exact .cons (IsD.dp d h1 e1) (IsDs.dp ds h2 e2)
end
theorem IsW.dp {v : V} {d : Dat} {y : PyData} (h : IsW Z H p v d) (e : toPy d = some y) : Dp Z.K H v y := by
  cases d with
  | lst ds =>
    obtain ⟨a, vs, rfl, h1, h2⟩ := h
    rw [toPy] at e
    cases e2 : toPys ds with
    | none => rw [e2] at e; cases e
    | some ys => rw [e2] at e; cases e; exact .lst (SqL.of h1.1) (IsDs.dp ds h2 e2)
  | dic _ _ => rw [toPy] at e <;> first | cases e | nofun
  | obj _ _ _ => rw [toPy] at e <;> first | cases e | nofun
  | non => exact IsD.dp _ h e
  | bl b => exact IsD.dp _ h e
  | int i => exact IsD.dp _ h e
  | str x => exact IsD.dp _ h e
  | tup ds => exact IsD.dp _ h e
  | loc n => exact IsD.dp _ h e
  | ty n => exact IsD.dp _ h e
  | cls n => exact IsD.dp _ h e
  | scr n => exact IsD.dp _ h e
end

/-! ### operations -/
section
variable {Z : Cz} {Er : ErW} {O : List Nat}
/-- of two ints, of one -/
def dI (C : Int → Int → Bool) (G : Int → Int → Dat) (d e : Dat) : M Dat := match d, e with
  | .int i, .int j => M.need (C i j) >>= fun _ => pure (G i j)
  | _, _ => M.no
def dI0 (G : Int → Int → Dat) (d e : Dat) : M Dat := match d, e with
  | .int i, .int j => pure (G i j)
  | _, _ => M.no
theorem bad_no {α : Type} {S : List Dat} {H : Hp} {p : Pl} {X : XR} {C : α → List Dat → Hp → Pl → Prop} (h : Post Z Er X ((M.no : M α) S) H p C) : False := h
theorem jr_I0 {g : Int → Int → V} {G : Int → Int → Dat} (h : ∀ i j H p, IsD Z H p (g i j) (G i j)) : JR Z (IsD Z) (IsD Z) (IsD Z) (rI0 g) (dI0 G) := fun x y d e Er H p S Q hx hy s q => by
  unfold dI0 at q
  split at q
  · exact ⟨_, _, isD_int.mp hx, isD_int.mp hy, q.pure xE s _ (h _ _ H p)⟩
  · exact (bad_no q).elim
theorem jr_I {C : Int → Int → Prop} {B : Int → Int → Bool} {g : Int → Int → V} {G : Int → Int → Dat} (hB : ∀ i j, B i j = true → C i j) (h : ∀ i j H p, IsD Z H p (g i j) (G i j)) : JR Z (IsD Z) (IsD Z) (IsD Z) (rI C g) (dI B G) := fun x y d e Er H p S Q hx hy s q => by
  unfold dI at q
  split at q
  · obtain ⟨c, q⟩ := q.need
    exact ⟨_, _, isD_int.mp hx, isD_int.mp hy, hB _ _ c, q.pure xE s _ (h _ _ H p)⟩
  · exact (bad_no q).elim
def dAdd := dI0 fun i j => .int (i + j)
def dSub := dI0 fun i j => .int (i - j)
def bMul (i j : Int) : Bool := (decide (-(2 ^ 64) < i) && decide (i < 2 ^ 64)) || (decide (-(2 ^ 64) < j) && decide (j < 2 ^ 64))
def dMul := dI bMul fun i j => .int (i * j)
def dMod := dI (fun _ j => decide (0 < j)) fun i j => .int (i % j)
def dDiv := dI (fun _ j => decide (0 < j) && decide (j < 2 ^ 200)) fun i j => .int (i / j)
def bPow (i j : Int) : Bool := decide (0 ≤ j) && decide (j ≤ 1000000) && decide (i.natAbs < 2 ^ 64)
def dPow := dI bPow fun i j => .int (i ^ j.toNat)
def bPowZ (i j : Int) : Bool := decide (0 ≤ j) && decide ((Builtin.Int.intBits i : Int) * j ≤ 2 ^ 27)
def dPowZ := dI bPowZ fun i j => .int (i ^ j.toNat)
def dLt := dI0 fun i j => .bl (decide (i < j))
def dLe := dI0 fun i j => .bl (decide (i ≤ j))
def dGt := dI0 fun i j => .bl (decide (j < i))
def dGe := dI0 fun i j => .bl (decide (j ≤ i))
abbrev JRD (Z : Cz) (r : L2.R2) (f : Dat → Dat → M Dat) : Prop := JR Z (IsD Z) (IsD Z) (IsD Z) r f
theorem r_add : JRD Z (rI0 fun i j => .int (i + j)) dAdd := jr_I0 fun _ _ _ _ => isD_int.mpr rfl
theorem r_sub : JRD Z (rI0 fun i j => .int (i - j)) dSub := jr_I0 fun _ _ _ _ => isD_int.mpr rfl
theorem r_lt : JRD Z (rI0 fun i j => .bl (decide (i < j))) dLt := jr_I0 fun _ _ _ _ => isD_bl.mpr rfl
theorem r_le : JRD Z (rI0 fun i j => .bl (decide (i ≤ j))) dLe := jr_I0 fun _ _ _ _ => isD_bl.mpr rfl
theorem r_gt : JRD Z (rI0 fun i j => .bl (decide (j < i))) dGt := jr_I0 fun _ _ _ _ => isD_bl.mpr rfl
theorem r_ge : JRD Z (rI0 fun i j => .bl (decide (j ≤ i))) dGe := jr_I0 fun _ _ _ _ => isD_bl.mpr rfl
theorem r_mul : JRD Z (rI CMul fun i j => .int (i * j)) dMul := jr_I (fun i j h => by
  unfold bMul at h
  simp only [Bool.or_eq_true, Bool.and_eq_true, decide_eq_true_eq] at h
  exact h) fun _ _ _ _ => isD_int.mpr rfl
theorem r_mod : JRD Z (rI (fun _ j => 0 < j) fun i j => .int (i % j)) dMod := jr_I (fun i j h => of_decide_eq_true h) fun _ _ _ _ => isD_int.mpr rfl
theorem r_div : JRD Z (rI CDivW fun i j => .int (i / j)) dDiv := jr_I (fun i j h => by
  simp only [Bool.and_eq_true, decide_eq_true_eq] at h
  exact wide_div h.1 (b := 200) (by omega) (by decide) (by decide)) fun _ _ _ _ => isD_int.mpr rfl
theorem r_pow : JRD Z (rI CPow fun i j => .int (i ^ j.toNat)) dPow := jr_I (fun i j h => by
  unfold bPow at h
  simp only [Bool.and_eq_true, decide_eq_true_eq] at h
  exact ⟨h.1.1, h.1.2, h.2⟩) fun _ _ _ _ => isD_int.mpr rfl
theorem r_powZ : JRD Z (rI Zg.CPowZ fun i j => .int (i ^ j.toNat)) dPowZ := jr_I (fun i j h => by
  unfold bPowZ at h
  simp only [Bool.and_eq_true, decide_eq_true_eq] at h
  exact ⟨h.1, h.2⟩) fun _ _ _ _ => isD_int.mpr rfl
def dNeg (d : Dat) : M Dat := match d with
  | .int i => pure (.int (-i))
  | _ => M.no
theorem u_neg : JU Z (IsD Z) (IsD Z) (rU fun i => .int (-i)) dNeg := fun x d Er H p S Q hx s q => by
  unfold dNeg at q
  split at q
  · exact ⟨_, isD_int.mp hx, q.pure xE s _ (isD_int.mpr rfl)⟩
  · exact (bad_no q).elim
/-! == and != of flat values -/
def vS : Dat → Option V
  | .non => some .non
  | .bl b => some (.bl b)
  | .int i => some (.int i)
  | .str x => some (.str x)
  | _ => none
theorem vS_is {H : Hp} {p : Pl} {v x : V} {d : Dat} (h : IsD Z H p v d) (e : vS d = some x) : v = x := by
  cases d with
  | non => cases e; exact isD_non.mp h
  | bl b => cases e; exact isD_bl.mp h
  | int i => cases e; exact isD_int.mp h
  | str z => cases e; exact isD_str.mp h
  | _ => cases e
def dEq (d e : Dat) : M Dat := M.opt (vS d) >>= fun x => M.opt (vS e) >>= fun y => M.need (scal x y) >>= fun _ => pure (.bl (decide (x = y)))
def dNe (d e : Dat) : M Dat := M.opt (vS d) >>= fun x => M.opt (vS e) >>= fun y => M.need (scal x y) >>= fun _ => pure (.bl (!decide (x = y)))
theorem r_eq : JRD Z rEq dEq := fun x y d e Er H p S Q hx hy s q => by
  obtain ⟨v, e1, q⟩ := q.opt
  obtain ⟨w, e2, q⟩ := q.opt
  obtain ⟨c, q⟩ := q.need
  rw [vS_is hx e1, vS_is hy e2]
  exact ⟨c, q.pure xE s _ (isD_bl.mpr rfl)⟩
theorem r_ne : JRD Z rNe dNe := fun x y d e Er H p S Q hx hy s q => by
  obtain ⟨v, e1, q⟩ := q.opt
  obtain ⟨w, e2, q⟩ := q.opt
  obtain ⟨c, q⟩ := q.need
  rw [vS_is hx e1, vS_is hy e2]
  exact ⟨c, q.pure xE s _ (isD_bl.mpr rfl)⟩
def isNon : Dat → Bool
  | .non => true
  | _ => false
def dIsN (d e : Dat) : M Dat := match e with
  | .non => pure (.bl (isNon d))
  | _ => M.no
def dNotN (d e : Dat) : M Dat := match e with
  | .non => pure (.bl (!isNon d))
  | _ => M.no
theorem non_dec {H : Hp} {p : Pl} {v : V} {d : Dat} (h : IsD Z H p v d) : decide (v = V.non) = isNon d := by
  cases d with
  | non => rw [isD_non.mp h]; rfl
  | bl b => rw [isD_bl.mp h]; rfl
  | int i => rw [isD_int.mp h]; rfl
  | str z => rw [isD_str.mp h]; rfl
  | tup ds => obtain ⟨a, vs, rfl, _⟩ := isD_tup.mp h; rfl
  | lst ds => obtain ⟨a, vs, rfl, _⟩ := isD_lst.mp h; rfl
  | dic ks ds => obtain ⟨a, vs, rfl, _⟩ := isD_dic.mp h; rfl
  | obj c fs ds => obtain ⟨a, vs, rfl, _⟩ := isD_obj.mp h; rfl
  | loc n => obtain ⟨a, rfl, _⟩ := isD_loc.mp h; rfl
  | ty n => rw [isD_ty.mp h]; rfl
  | cls c => unfold IsD at h; rw [h]; rfl
  | scr ns => obtain ⟨a, rfl, _⟩ := isD_scr.mp h; rfl
theorem r_isN : JRD Z (fun x y H Q => y = .non ∧ Q (.bl (decide (x = .non))) H) dIsN := fun x y d e Er H p S Q hx hy s q => by
  unfold dIsN at q
  split at q
  · refine ⟨isD_non.mp hy, ?_⟩
    rw [non_dec hx]
    exact q.pure xE s _ (isD_bl.mpr rfl)
  · exact (bad_no q).elim
theorem r_notN : JRD Z (fun x y H Q => y = .non ∧ Q (.bl (!decide (x = .non))) H) dNotN := fun x y d e Er H p S Q hx hy s q => by
  unfold dNotN at q
  split at q
  · refine ⟨isD_non.mp hy, ?_⟩
    rw [non_dec hx]
    exact q.pure xE s _ (isD_bl.mpr rfl)
  · exact (bad_no q).elim
def dIsNotB (d e : Dat) : M Dat := match d, e with
  | .bl a, .bl b => pure (.bl (!decide (a = b)))
  | _, _ => M.no
theorem r_isNotB : JRD Z (fun x y H Q => ∃ a b, x = .bl a ∧ y = .bl b ∧ Q (.bl (!decide (a = b))) H) dIsNotB := fun x y d e Er H p S Q hx hy s q => by
  unfold dIsNotB at q
  split at q
  · exact ⟨_, _, isD_bl.mp hx, isD_bl.mp hy, q.pure xE s _ (isD_bl.mpr rfl)⟩
  · exact (bad_no q).elim
/-! data of any depth: ==, <, in -/
def shp (y : PyData) : Bool := SeqAt.shaped y
def dEqD (b : Bool) (d e : Dat) : M Dat := M.opt (toPy d) >>= fun x => M.opt (toPy e) >>= fun y => M.need (shp x && shp y) >>= fun _ => pure (.bl (b != PyData.eqv x y))
theorem r_eqD : JR Z (IsW Z) (IsW Z) (IsD Z) (rEqD Z.K) (dEqD false) := fun x y d e Er H p S Q hx hy s q => by
  obtain ⟨v, e1, q⟩ := q.opt
  obtain ⟨w, e2, q⟩ := q.opt
  obtain ⟨c, q⟩ := q.need
  rw [Bool.and_eq_true] at c
  exact ⟨v, w, hx.dp e1, hy.dp e2, c.1, c.2, q.pure xE s _ (isD_bl.mpr (by simp))⟩
theorem r_neD : JR Z (IsW Z) (IsW Z) (IsD Z) (rNeD Z.K) (dEqD true) := fun x y d e Er H p S Q hx hy s q => by
  obtain ⟨v, e1, q⟩ := q.opt
  obtain ⟨w, e2, q⟩ := q.opt
  obtain ⟨c, q⟩ := q.need
  rw [Bool.and_eq_true] at c
  exact ⟨v, w, hx.dp e1, hy.dp e2, c.1, c.2, q.pure xE s _ (isD_bl.mpr (by simp))⟩
def rLtD (K : PySem.W.Frag) : L2.R2 := fun x y H Q => ∃ d e, Dp K H x d ∧ Dp K H y e ∧ PySem.W.alike d e = true ∧ d ≠ .none ∧ d.depth ≤ 64 ∧ Q (.bl (PySem.W.dataLt d e)) H
theorem op_ltD {X : Cx} {K : PySem.W.Frag} (hu : X.A.units + 64 < cLine) (h : X.K = K := by rfl) : OpR X (compareOp .Lt) (rLtD K) := by
  subst h
  intro pins s σ H x y v u Q I rx ry h
  obtain ⟨d, e, hd, he, al, nn, sd, q⟩ := h
  obtain ⟨as, r1⟩ := Dp.reads I d x v hd rx
  obtain ⟨bs, r2⟩ := Dp.reads I e y u he ry
  refine PySem.W.lt_data r1 r2 al nn ?_ ⟨.bl _, H, I, rfl, q⟩
  have h2 : min d.depth e.depth ≤ d.depth := Nat.min_le_left _ _
  omega
def isNone : PyData → Bool
  | .none => true
  | _ => false
def dLtD (d e : Dat) : M Dat := M.opt (toPy d) >>= fun x => M.opt (toPy e) >>= fun y => M.need (PySem.W.alike x y && !isNone x && decide (x.depth ≤ 64)) >>= fun _ => pure (.bl (PySem.W.dataLt x y))
theorem r_ltD : JRD Z (rLtD Z.K) dLtD := fun x y d e Er H p S Q hx hy s q => by
  obtain ⟨v, e1, q⟩ := q.opt
  obtain ⟨w, e2, q⟩ := q.opt
  obtain ⟨c, q⟩ := q.need
  simp only [Bool.and_eq_true, decide_eq_true_eq, Bool.not_eq_true'] at c
  refine ⟨v, w, hx.dp _ e1, hy.dp _ e2, c.1.1, fun z => ?_, c.2, q.pure xE s _ (isD_bl.mpr rfl)⟩
  rw [z] at c
  exact absurd c.1.2 (by decide)
def rInDD (K : PySem.W.Frag) (neg : Bool) : L2.R2 := fun x y H Q => ∃ d ds, Dp K H x d ∧ (Dp K H y (.tuple ds) ∨ Dp K H y (.list ds)) ∧ SeqAt.shaped d = true ∧ SeqAt.shaped (.tuple ds) = true ∧ Q (.bl (neg != ds.any fun z => PyData.eqv z d)) H
theorem op_inDD {X : Cx} {K : PySem.W.Frag} (hu : X.A.units + 70 < cLine) (h : X.K = K := by rfl) : OpR X (compareOp .In) (rInDD K false) := by
  subst h
  intro pins s σ H x y v u Q I rx ry h
  obtain ⟨d, ds, hd, he, sd, se, q⟩ := h
  obtain ⟨as, r1⟩ := Dp.reads I d x v hd rx
  rw [Bool.false_bne] at q
  rcases he with he | he
  · obtain ⟨bs, r2⟩ := Dp.reads I (.tuple ds) y u he ry
    exact SeqAt.in_tuple_reads r2 r1 (SeqAt.canLay_of_shaped se) (SeqAt.canLay_of_shaped sd) (room_in_shaped sd (by omega)) ⟨.bl _, H, I, rfl, q⟩
  · obtain ⟨bs, r2⟩ := Dp.reads I (.list ds) y u he ry
    exact SeqAt.in_list_reads r2 r1 (SeqAt.canLay_of_shaped se) (SeqAt.canLay_of_shaped sd) (room_in_shaped sd (by omega)) ⟨.bl _, H, I, rfl, q⟩
theorem op_notInDD {X : Cx} {K : PySem.W.Frag} (hu : X.A.units + 70 < cLine) (h : X.K = K := by rfl) : OpR X (compareOp .NotIn) (rInDD K true) := by
  subst h
  intro pins s σ H x y v u Q I rx ry h
  obtain ⟨d, ds, hd, he, sd, se, q⟩ := h
  obtain ⟨as, r1⟩ := Dp.reads I d x v hd rx
  rw [Bool.true_bne] at q
  rcases he with he | he
  · obtain ⟨bs, r2⟩ := Dp.reads I (.tuple ds) y u he ry
    exact SeqAt.notIn_tuple_reads r2 r1 (SeqAt.canLay_of_shaped se) (SeqAt.canLay_of_shaped sd) (room_in_shaped sd (by omega)) ⟨.bl _, H, I, rfl, q⟩
  · obtain ⟨bs, r2⟩ := Dp.reads I (.list ds) y u he ry
    exact SeqAt.notIn_list_reads r2 r1 (SeqAt.canLay_of_shaped se) (SeqAt.canLay_of_shaped sd) (room_in_shaped sd (by omega)) ⟨.bl _, H, I, rfl, q⟩
def itemsOf : Dat → Option (List Dat)
  | .tup ds => some ds
  | .lst ds => some ds
  | _ => none
def dIn (neg : Bool) (d e : Dat) : M Dat := M.opt (toPy d) >>= fun x => M.opt ((itemsOf e).bind toPys) >>= fun ys => M.need (shp x && shp (.tuple ys)) >>= fun _ => pure (.bl (neg != ys.any fun z => PyData.eqv z x))
theorem r_in {neg : Bool} : JR Z (IsD Z) (IsW Z) (IsD Z) (rInDD Z.K neg) (dIn neg) := fun x y d e Er H p S Q hx hy s q => by
  obtain ⟨v, e1, q⟩ := q.opt
  obtain ⟨ws, e2, q⟩ := q.opt
  obtain ⟨c, q⟩ := q.need
  rw [Bool.and_eq_true] at c
  refine ⟨v, ws, hx.dp _ e1, ?_, c.1, c.2, q.pure xE s _ (isD_bl.mpr rfl)⟩
  cases e with
  | tup ds =>
    left
    refine hy.dp ?_
    rw [toPy]
    have e2 : toPys ds = some ws := e2
    rw [e2]; rfl
  | lst ds =>
    right
    refine hy.dp ?_
    rw [toPy]
    have e2 : toPys ds = some ws := e2
    rw [e2]; rfl
  | _ => cases e2
/-! tuples, lists: +, *, [], [:] -/
def dCatT (d e : Dat) : M Dat := match d, e with
  | .tup xs, .tup ys => M.need (decide (xs.length + ys.length ≤ 100000)) >>= fun _ => pure (.tup (xs ++ ys))
  | _, _ => M.no
theorem lim {n : Nat} (h : n ≤ 100000) : n ≤ sizeLine := by have := sizeLine_eq; omega
theorem r_catT : JRD Z (rCatA Z.K) dCatT := fun x y d e Er H p S Q hx hy s q => by
  unfold dCatT at q
  split at q
  · rename_i xs ys
    obtain ⟨c, q⟩ := q.need
    have c := of_decide_eq_true c
    obtain ⟨a, vs, rfl, h1, h2⟩ := isD_tup.mp hx
    obtain ⟨b, ws, rfl, g1, g2⟩ := isD_tup.mp hy
    refine ⟨a, b, vs, ws, rfl, rfl, h1.sq, g1.sq, lim (by rw [h2.len, g2.len]; exact c), fun z => ?_, fun z z2 => ?_, fun _ _ t nt => ?_⟩
    · have e : xs = [] := List.length_eq_zero_iff.mp (by rw [← h2.len, z]; rfl)
      subst e
      exact q.pure xE s _ hy
    · have e : ys = [] := List.length_eq_zero_iff.mp (by rw [← g2.len, z2]; rfl)
      subst e
      have q := q.pure xE s
      rw [List.append_nil] at q
      exact q _ hx
    · exact q.at_new s nt _ (new_tup s nt (h2.append g2))
  · exact (bad_no q).elim
def dCatL (d e : Dat) : M Dat := match d, e with
  | .lst xs, .lst ys => M.need (decide (xs.length + ys.length ≤ 100000)) >>= fun _ => pure (.lst (xs ++ ys))
  | _, _ => M.no
theorem r_catL : JR Z (IsW Z) (IsW Z) (IsD Z) rCat dCatL := fun x y d e Er H p S Q hx hy s q => by
  unfold dCatL at q
  split at q
  · obtain ⟨c, q⟩ := q.need
    have c := of_decide_eq_true c
    obtain ⟨a, vs, rfl, h1, h2⟩ := hx
    obtain ⟨b, ws, rfl, g1, g2⟩ := hy
    exact ⟨a, b, vs, ws, rfl, rfl, h1.1, g1.1, lim (by rw [h2.len, g2.len]; exact c), fun t nt => q.at_new s nt _ (new_lst s nt (h2.append g2))⟩
  · exact (bad_no q).elim
theorem IsDs.rep {H : Hp} {p : Pl} {vs : List V} {ds : List Dat} (h : IsDs Z H p vs ds) : ∀ n : Nat, IsDs Z H p (List.replicate n vs).flatten (List.replicate n ds).flatten
  | 0 => isDs_nil.mpr rfl
  | n + 1 => by
    rw [List.replicate_succ, List.replicate_succ, List.flatten_cons, List.flatten_cons]
    exact h.append (IsDs.rep h n)
def dRepL (d e : Dat) : M Dat := match d, e with
  | .lst xs, .int k => M.need (decide (-(2 ^ 63) ≤ k) && decide (k < 2 ^ 63) && decide (xs.length * k.toNat ≤ 100000)) >>= fun _ => pure (.lst (List.replicate k.toNat xs).flatten)
  | _, _ => M.no
theorem r_repL : JRD Z rRep dRepL := fun x y d e Er H p S Q hx hy s q => by
  unfold dRepL at q
  split at q
  · obtain ⟨c, q⟩ := q.need
    simp only [Bool.and_eq_true, decide_eq_true_eq] at c
    obtain ⟨a, vs, rfl, h1, h2⟩ := isD_lst.mp hx
    exact ⟨a, _, vs, rfl, isD_int.mp hy, h1.1, c.1.1, c.1.2, lim (by rw [h2.len]; exact c.2), fun t nt => q.at_new s nt _ (new_lst s nt (h2.rep _))⟩
  · exact (bad_no q).elim
def dAddS (d e : Dat) : M Dat := match d, e with
  | .str x, .str y => M.need (decide (x.length + y.length ≤ 100000)) >>= fun _ => pure (.str (x ++ y))
  | _, _ => M.no
theorem r_addS : JRD Z (fun x y H Q => ∃ i j, x = .str i ∧ y = .str j ∧ i.length + j.length ≤ sizeLine ∧ Q (.str (i ++ j)) H) dAddS := fun x y d e Er H p S Q hx hy s q => by
  unfold dAddS at q
  split at q
  · obtain ⟨c, q⟩ := q.need
    exact ⟨_, _, isD_str.mp hx, isD_str.mp hy, lim (of_decide_eq_true c), q.pure xE s _ (isD_str.mpr rfl)⟩
  · exact (bad_no q).elim
def dLtS (d e : Dat) : M Dat := match d, e with
  | .str x, .str y => pure (.bl (decide (x.cps.toList < y.cps.toList)))
  | _, _ => M.no
theorem r_ltS : JRD Z (fun x y H Q => ∃ i j, x = .str i ∧ y = .str j ∧ Q (.bl (decide (i.cps.toList < j.cps.toList))) H) dLtS := fun x y d e Er H p S Q hx hy s q => by
  unfold dLtS at q
  split at q
  · exact ⟨_, _, isD_str.mp hx, isD_str.mp hy, q.pure xE s _ (isD_bl.mpr rfl)⟩
  · exact (bad_no q).elim
theorem atI_rel {H : Hp} {p : Pl} {vs : List V} {ds : List Dat} {i : Int} {d : Dat} (h : IsDs Z H p vs ds) (e : atI ds i = some d) : ∃ v, atI vs i = some v ∧ IsD Z H p v d := by
  unfold atI at e ⊢
  rw [h.len]
  cases q : ixN ds.length i with
  | none => rw [q] at e; cases e
  | some j =>
    rw [q] at e
    exact h.get e
def dIx (d e : Dat) : M Dat := match d, e with
  | .lst xs, .int i => M.opt (atI xs i)
  | .tup xs, .int i => M.opt (atI xs i)
  | _, _ => M.no
def dIxL (d e : Dat) : M Dat := match d, e with
  | .lst xs, .int i => M.opt (atI xs i)
  | _, _ => M.no
def dIxT (d e : Dat) : M Dat := match d, e with
  | .tup xs, .int i => M.opt (atI xs i)
  | _, _ => M.no
theorem r_ixT : JRD Z (rIxT Z.K) dIxT := fun x y d e Er H p S Q hx hy s q => by
  unfold dIxT at q
  split at q
  · obtain ⟨c, e, q⟩ := opt_pure xE q s
    obtain ⟨a, vs, rfl, h1, h2⟩ := isD_tup.mp hx
    obtain ⟨v, e1, e2⟩ := atI_rel h2 e
    exact ⟨a, vs, _, v, rfl, isD_int.mp hy, h1.sq, e1, q v e2⟩
  · exact (bad_no q).elim
theorem r_ixL : JR Z (IsW Z) (IsD Z) (IsD Z) (rIxL Z.K) dIxL := fun x y d e Er H p S Q hx hy s q => by
  unfold dIxL at q
  split at q
  · obtain ⟨c, e, q⟩ := opt_pure xE q s
    obtain ⟨a, vs, rfl, h1, h2⟩ := hx
    obtain ⟨v, e1, e2⟩ := atI_rel h2 e
    exact ⟨a, vs, _, v, rfl, isD_int.mp hy, SqL.of h1.1, e1, q v e2⟩
  · exact (bad_no q).elim
/-- a sign of the script -/
def dIxSc (d e : Dat) : M Dat := match d, e with
  | .scr xs, .int i => M.opt (atI xs i) >>= fun n => pure (.int n)
  | _, _ => M.no
theorem r_ixSc : JRD Z (rIxL Z.K) dIxSc := fun x y d e Er H p S Q hx hy s q => by
  unfold dIxSc at q
  split at q
  · rename_i xs i
    obtain ⟨n, e, q⟩ := q.opt
    obtain ⟨a, rfl, h1⟩ := isD_scr.mp hx
    have e1 : atI (xs.map V.int) i = some (.int n) := by
      unfold atI at e ⊢
      rw [List.length_map]
      cases z : ixN xs.length i with
      | none => rw [z] at e; cases e
      | some j =>
        rw [z] at e
        have e : xs[j]? = some n := e
        show (xs.map V.int)[j]? = some (.int n)
        rw [List.getElem?_map, e]
        rfl
    exact ⟨a, _, _, _, rfl, isD_int.mp hy, h1.elim (fun z => .inl z.1) fun z => z H, e1, q.pure xE s _ (isD_int.mpr rfl)⟩
  · exact (bad_no q).elim
/-- an item of a shared list -/
def dIxLo (d e : Dat) : M Dat := match d, e with
  | .loc n, .int i => fun S => match S[n]? with
    | some (.lst xs) => M.opt (atI xs i) S
    | _ => .bad
  | _, _ => M.no
theorem r_ixLo : JRD Z (rIxL Z.K) dIxLo := fun x y d e Er H p S Q hx hy s q => by
  cases d with
  | loc n =>
    cases e with
    | int i =>
      obtain ⟨a, rfl, ha⟩ := isD_loc.mp hx
      have q : Post Z Er ExtE (match S[n]? with | some (.lst xs) => M.opt (atI xs i) S | _ => .bad) H p _ := q
      split at q
      · rename_i xs ex
        obtain ⟨c, e, q⟩ := opt_pure xE q s
        obtain ⟨vs, h1, h2⟩ := s.at_ n a _ ha ex
        obtain ⟨v, e1, e2⟩ := atI_rel h2 e
        exact ⟨a, vs, _, v, rfl, isD_int.mp hy, SqL.of h1, e1, q v e2⟩
      · exact q.elim
    | _ => exact (bad_no (S := S) q).elim
  | _ => exact (bad_no (S := S) q).elim
def cutD (xs : List Dat) (lo hi : Option Int) : List Dat := (xs.drop (HT.sIx xs.length 0 lo)).take (HT.sIx xs.length xs.length hi - HT.sIx xs.length 0 lo)
theorem IsDs.cut {H : Hp} {p : Pl} {vs : List V} {ds : List Dat} (h : IsDs Z H p vs ds) (lo hi : Option Int) : IsDs Z H p (cutV vs lo hi) (cutD ds lo hi) := by
  unfold cutV cutD
  rw [h.len]
  exact (h.drop _).take _
def jSl (f : Dat → Option Int → Option Int → M Dat) (a : Env → M Dat) (l u : Env → M (Option Int)) (ρ : Env) : M Dat := a ρ >>= fun x => l ρ >>= fun lo => u ρ >>= fun hi => f x lo hi
def dCutT (d : Dat) (lo hi : Option Int) : M Dat := match d with
  | .tup xs => pure (.tup (cutD xs lo hi))
  | _ => M.no
def dCutL (d : Dat) (lo hi : Option Int) : M Dat := match d with
  | .lst xs => pure (.lst (cutD xs lo hi))
  | _ => M.no
def oNone (_ : Env) : M (Option Int) := pure none
def oSome (a : Env → M Dat) (ρ : Env) : M (Option Int) := a ρ >>= fun x => match x with
  | .int i => pure (some i)
  | _ => M.no
variable {te ta tb : TE} {tl th : TO} {m m1 m2 : Env → M Dat} {ml mh : Env → M (Option Int)}
theorem jo_none : JO Z Er O tNoPart oNone := fun σ H p ρ S Q hE hS q => q.pure xE hS none rfl
theorem jo_some (h : JD Z Er O te m) : JO Z Er O (tPart te) (oSome m) := fun σ H p ρ S Q hE hS q =>
  h σ H p ρ S _ hE hS ((q.bnd xE).mono fun d S1 H1 p1 e1 s1 q1 v hv => by
    cases d with
    | int i => exact ⟨i, isD_int.mp hv, q1.pure xE s1 _ rfl⟩
    | _ => exact (bad_no q1).elim)
theorem j_slT (h : JD Z Er O te m) (hl : JO Z Er O tl ml) (hh : JO Z Er O th mh) : JD Z Er O (tSl (rSlA Z.K) te tl th) (jSl dCutT m ml mh) := fun σ H p ρ S Q hE hS q =>
  h σ H p ρ S _ hE hS ((q.bnd xE).mono fun d S1 H1 p1 e1 s1 q1 v hv => hl σ H1 p1 ρ S1 _ (hE.ext e1 hS) s1 ((q1.bnd xE).mono fun lo S2 H2 p2 e2 s2 q2 lo' elo => hh σ H2 p2 ρ S2 _ ((hE.ext e1 hS).ext e2 s1) s2 ((q2.bnd xE).mono fun hi S3 H3 p3 e3 s3 q3 hi' ehi => by
    subst elo ehi
    have hv3 := hv.ext (e2.trans e3).s
    unfold dCutT at q3
    split at q3
    · rename_i xs
      obtain ⟨a, vs, rfl, h1, h2⟩ := isD_tup.mp hv3
      refine ⟨a, vs, rfl, h1.sq, fun wh => ?_, fun _ t nt => q3.at_new s3 nt _ (new_tup s3 nt (h2.cut _ _))⟩
      have e : cutD xs lo' hi' = xs := by
        rw [h2.len] at wh
        unfold cutD
        rw [wh.1, wh.2, List.drop_zero, Nat.sub_zero, List.take_length]
      have q3 := q3.pure xE s3
      rw [e] at q3
      exact q3 _ hv3
    · exact (bad_no q3).elim)))
theorem j_slL (h : JW Z Er O te m) (hl : JO Z Er O tl ml) (hh : JO Z Er O th mh) : JD Z Er O (tSl (rSlL Z.K) te tl th) (jSl dCutL m ml mh) := fun σ H p ρ S Q hE hS q =>
  h σ H p ρ S _ hE hS ((q.bnd xE).mono fun d S1 H1 p1 e1 s1 q1 v hv => hl σ H1 p1 ρ S1 _ (hE.ext e1 hS) s1 ((q1.bnd xE).mono fun lo S2 H2 p2 e2 s2 q2 lo' elo => hh σ H2 p2 ρ S2 _ ((hE.ext e1 hS).ext e2 s1) s2 ((q2.bnd xE).mono fun hi S3 H3 p3 e3 s3 q3 hi' ehi => by
    subst elo ehi
    have hv3 := upW.up (e2.trans e3) s1 hv
    unfold dCutL at q3
    split at q3
    · rename_i xs
      obtain ⟨a, vs, rfl, h1, h2⟩ := hv3
      exact ⟨a, vs, rfl, SqL.of h1.1, fun t nt => q3.at_new s3 nt _ (new_lst s3 nt (h2.cut _ _))⟩
    · exact (bad_no q3).elim)))
/-! t[::-1] -/

/-! ### built-in functions -/
def dLen (ds : List Dat) : M Dat := match ds with
  | [.lst xs] => pure (.int xs.length)
  | [.tup xs] => pure (.int xs.length)
  | [.scr xs] => pure (.int xs.length)
  | _ => M.no
abbrev JCW (Z : Cz) (r : List V → Hp → VK → Prop) (f : List Dat → M Dat) : Prop := JC Z (IsWs Z) (IsD Z) r f
theorem isWs_one {H : Hp} {p : Pl} {vs : List V} {d : Dat} (h : IsWs Z H p vs [d]) : ∃ v, vs = [v] ∧ IsW Z H p v d := by
  obtain ⟨v, r, rfl, h1, h2⟩ := h
  rw [isDs_nil.mp h2]
  exact ⟨v, rfl, h1⟩
theorem isDs_two {H : Hp} {p : Pl} {vs : List V} {d e : Dat} (h : IsDs Z H p vs [d, e]) : ∃ v w, vs = [v, w] ∧ IsD Z H p v d ∧ IsD Z H p w e := by
  obtain ⟨v, r, rfl, h1, h2⟩ := isDs_cons.mp h
  obtain ⟨w, r, rfl, h3, h4⟩ := isDs_cons.mp h2
  rw [isDs_nil.mp h4]
  exact ⟨v, w, rfl, h1, h3⟩
theorem isDs_one {H : Hp} {p : Pl} {vs : List V} {d : Dat} (h : IsDs Z H p vs [d]) : ∃ v, vs = [v] ∧ IsD Z H p v d := by
  obtain ⟨v, r, rfl, h1, h2⟩ := isDs_cons.mp h
  rw [isDs_nil.mp h2]
  exact ⟨v, rfl, h1⟩
theorem c_len : JCW Z (fun xs H Q => ∃ p ys, xs = [.ref p] ∧ (SqL Z.K H p ys ∨ SqT Z.K H p ys) ∧ Q (.int ys.length) H) dLen := fun x d Er H p S Q hx s q => by
  unfold dLen at q
  split at q
  · obtain ⟨v, rfl, hv⟩ := isWs_one hx
    obtain ⟨a, vs, rfl, h1, h2⟩ := hv
    refine ⟨a, vs, rfl, .inl (SqL.of h1.1), ?_⟩
    rw [h2.len]
    exact q.pure xE s _ (isD_int.mpr rfl)
  · obtain ⟨v, rfl, hv⟩ := isWs_one hx
    obtain ⟨a, vs, rfl, h1, h2⟩ := isD_tup.mp hv
    refine ⟨a, vs, rfl, .inr h1.sq, ?_⟩
    rw [h2.len]
    exact q.pure xE s _ (isD_int.mpr rfl)
  · obtain ⟨v, rfl, hv⟩ := isWs_one hx
    obtain ⟨a, rfl, h1⟩ := isD_scr.mp hv
    refine ⟨a, _, rfl, .inl (h1.elim (fun z => .inl z.1) fun z => z H), ?_⟩
    rw [List.length_map]
    exact q.pure xE s _ (isD_int.mpr rfl)
  · exact (bad_no q).elim
def dLenS (ds : List Dat) : M Dat := match ds with
  | [.str x] => M.need (decide (x.length ≤ 100000)) >>= fun _ => pure (.int x.length)
  | _ => M.no
theorem c_lenS : JC Z (IsDs Z) (IsD Z) (fun xs H Q => ∃ z, xs = [.str z] ∧ z.length ≤ sizeLine ∧ Q (.int z.length) H) dLenS := fun x d Er H p S Q hx s q => by
  unfold dLenS at q
  split at q
  · obtain ⟨c, q⟩ := q.need
    obtain ⟨v, rfl, hv⟩ := isDs_one hx
    exact ⟨_, by rw [isD_str.mp hv], lim (of_decide_eq_true c), q.pure xE s _ (isD_int.mpr rfl)⟩
  · exact (bad_no q).elim
def dMax (ds : List Dat) : M Dat := match ds with
  | [.int i, .int j] => pure (.int (if j > i then j else i))
  | _ => M.no
def dMin (ds : List Dat) : M Dat := match ds with
  | [.int i, .int j] => pure (.int (if j < i then j else i))
  | _ => M.no
def dAbs (ds : List Dat) : M Dat := match ds with
  | [.int i] => pure (.int (if i < 0 then -i else i))
  | _ => M.no
def dInt (ds : List Dat) : M Dat := match ds with
  | [.int i] => pure (.int i)
  | [.bl b] => pure (.int (if b then 1 else 0))
  | _ => M.no
theorem c_max : JC Z (IsDs Z) (IsD Z) (fun xs H Q => ∃ i j, xs = [.int i, .int j] ∧ Q (.int (if j > i then j else i)) H) dMax := fun x d Er H p S Q hx s q => by
  unfold dMax at q
  split at q
  · obtain ⟨v, w, rfl, h1, h2⟩ := isDs_two hx
    exact ⟨_, _, by rw [isD_int.mp h1, isD_int.mp h2], q.pure xE s _ (isD_int.mpr rfl)⟩
  · exact (bad_no q).elim
theorem c_min : JC Z (IsDs Z) (IsD Z) (fun xs H Q => ∃ i j, xs = [.int i, .int j] ∧ Q (.int (if j < i then j else i)) H) dMin := fun x d Er H p S Q hx s q => by
  unfold dMin at q
  split at q
  · obtain ⟨v, w, rfl, h1, h2⟩ := isDs_two hx
    exact ⟨_, _, by rw [isD_int.mp h1, isD_int.mp h2], q.pure xE s _ (isD_int.mpr rfl)⟩
  · exact (bad_no q).elim
theorem c_abs : JC Z (IsDs Z) (IsD Z) (fun xs H Q => ∃ i, xs = [.int i] ∧ Q (.int (if i < 0 then -i else i)) H) dAbs := fun x d Er H p S Q hx s q => by
  unfold dAbs at q
  split at q
  · obtain ⟨v, rfl, h1⟩ := isDs_one hx
    exact ⟨_, by rw [isD_int.mp h1], q.pure xE s _ (isD_int.mpr rfl)⟩
  · exact (bad_no q).elim
theorem c_int : JC Z (IsDs Z) (IsD Z) (fun xs H Q => (∃ i, xs = [.int i] ∧ Q (.int i) H) ∨ ∃ k, xs = [.bl k] ∧ Q (.int (if k then 1 else 0)) H) dInt := fun x d Er H p S Q hx s q => by
  unfold dInt at q
  split at q
  · obtain ⟨v, rfl, h1⟩ := isDs_one hx
    exact .inl ⟨_, by rw [isD_int.mp h1], q.pure xE s _ (isD_int.mpr rfl)⟩
  · obtain ⟨v, rfl, h1⟩ := isDs_one hx
    exact .inr ⟨_, by rw [isD_bl.mp h1], q.pure xE s _ (isD_int.mpr rfl)⟩
  · exact (bad_no q).elim
/-- all, any of a list of truths -/
def blsOf : List Dat → Option (List Bool)
  | [] => some []
  | .bl b :: r => (blsOf r).map (b :: ·)
  | _ => none
theorem blsOf_is {H : Hp} {p : Pl} : ∀ {ds : List Dat} {vs : List V} {bs : List Bool}, IsDs Z H p vs ds → blsOf ds = some bs → vs = bs.map V.bl
  | [], _, _, h, e => by cases e; exact isDs_nil.mp h
  | d :: ds, _, bs, h, e => by
    obtain ⟨v, r, rfl, h1, h2⟩ := isDs_cons.mp h
    cases d with
    | bl b =>
      unfold blsOf at e
      cases z : blsOf ds with
      | none => rw [z] at e; cases e
      | some cs =>
        rw [z] at e
        cases e
        rw [isD_bl.mp h1, blsOf_is h2 z]
        rfl
    | _ => cases e
def dAll (ds : List Dat) : M Dat := match ds with
  | [.lst xs] => M.opt (blsOf xs) >>= fun bs => pure (.bl (bs.all id))
  | _ => M.no
def dAny (ds : List Dat) : M Dat := match ds with
  | [.lst xs] => M.opt (blsOf xs) >>= fun bs => pure (.bl (bs.any id))
  | _ => M.no
theorem c_all : JCW Z (rAll Z.K) dAll := fun x d Er H p S Q hx s q => by
  unfold dAll at q
  split at q
  · obtain ⟨bs, e, q⟩ := q.opt
    obtain ⟨v, rfl, hv⟩ := isWs_one hx
    obtain ⟨a, vs, rfl, h1, h2⟩ := hv
    exact ⟨a, bs, rfl, by rw [← blsOf_is h2 e]; exact SqL.of h1.1, q.pure xE s _ (isD_bl.mpr rfl)⟩
  · exact (bad_no q).elim
theorem c_any : JCW Z (rAny Z.K) dAny := fun x d Er H p S Q hx s q => by
  unfold dAny at q
  split at q
  · obtain ⟨bs, e, q⟩ := q.opt
    obtain ⟨v, rfl, hv⟩ := isWs_one hx
    obtain ⟨a, vs, rfl, h1, h2⟩ := hv
    exact ⟨a, bs, rfl, by rw [← blsOf_is h2 e]; exact SqL.of h1.1, q.pure xE s _ (isD_bl.mpr rfl)⟩
  · exact (bad_no q).elim
def dTuple (ds : List Dat) : M Dat := match ds with
  | [.lst xs] => pure (.tup xs)
  | [.tup xs] => pure (.tup xs)
  | _ => M.no
theorem c_tuple : JCW Z (fun xs H Q => ∃ p ys, xs = [.ref p] ∧ ((SqL Z.K H p ys ∧ ∀ l, H l = none → Q (.ref l) (L2.upd H l (.tup ys))) ∨ (SqT Z.K H p ys ∧ Q (.ref p) H))) dTuple := fun x d Er H p S Q hx s q => by
  unfold dTuple at q
  split at q
  · obtain ⟨v, rfl, hv⟩ := isWs_one hx
    obtain ⟨a, vs, rfl, h1, h2⟩ := hv
    exact ⟨a, vs, rfl, .inl ⟨SqL.of h1.1, fun t nt => q.at_new s nt _ (new_tup s nt h2)⟩⟩
  · obtain ⟨v, rfl, hv⟩ := isWs_one hx
    obtain ⟨a, vs, rfl, h1, h2⟩ := isD_tup.mp hv
    exact ⟨a, vs, rfl, .inr ⟨h1.sq, q.pure xE s _ hv⟩⟩
  · exact (bad_no q).elim
def dList (ds : List Dat) : M Dat := match ds with
  | [.lst xs] => pure (.lst xs)
  | [.tup xs] => pure (.lst xs)
  | _ => M.no
theorem c_list : JCW Z (fun xs H Q => ∃ p ys, xs = [.ref p] ∧ (SqL Z.K H p ys ∨ SqT Z.K H p ys) ∧ ∀ l, H l = none → Q (.ref l) (L2.upd H l (.lst ys))) dList := fun x d Er H p S Q hx s q => by
  unfold dList at q
  split at q
  · obtain ⟨v, rfl, hv⟩ := isWs_one hx
    obtain ⟨a, vs, rfl, h1, h2⟩ := hv
    exact ⟨a, vs, rfl, .inl (SqL.of h1.1), fun t nt => q.at_new s nt _ (new_lst s nt h2)⟩
  · obtain ⟨v, rfl, hv⟩ := isWs_one hx
    obtain ⟨a, vs, rfl, h1, h2⟩ := isD_tup.mp hv
    exact ⟨a, vs, rfl, .inr h1.sq, fun t nt => q.at_new s nt _ (new_lst s nt h2)⟩
  · exact (bad_no q).elim
/-- isinstance of one built-in class -/
def tyN : Dat → Option String
  | .non => some "NoneType"
  | .bl _ => some "bool"
  | .int _ => some "int"
  | .str _ => some "str"
  | .tup _ => some "tuple"
  | .lst _ => some "list"
  | .dic _ _ => some "dict"
  | _ => none
def dIsi (ds : List Dat) : M Dat := match ds with
  | [d, .ty n] => M.opt ((tyN d).bind fun t => kitB t n) >>= fun b => pure (.bl b)
  | _ => M.no
theorem tyx_of {H : Hp} {p : Pl} {v : V} {d : Dat} {t : String} (h : IsW Z H p v d) (e : tyN d = some t) : TyX Z.K H v (.type t) := by
  cases d with
  | non => cases e; have h : IsD Z H p v .non := h; rw [isD_non.mp h]; exact .base .non
  | bl b => cases e; have h : IsD Z H p v (.bl b) := h; rw [isD_bl.mp h]; exact .base (.bl b)
  | int i => cases e; have h : IsD Z H p v (.int i) := h; rw [isD_int.mp h]; exact .base (.int i)
  | str x => cases e; have h : IsD Z H p v (.str x) := h; rw [isD_str.mp h]; exact .base (.str x)
  | tup ds =>
    cases e
    have h : IsD Z H p v (.tup ds) := h
    obtain ⟨a, vs, rfl, h1, h2⟩ := isD_tup.mp h
    rcases h1.sq (Z := Z) with (h1 | ⟨o, h1⟩) | ⟨o, its, n, h1, h2, _⟩
    · exact .base (.tup h1)
    · exact .fTuple h1
    · exact .kTuple h1 h2
  | lst ds =>
    cases e
    obtain ⟨a, vs, rfl, h1, h2⟩ := h
    exact .base (.lst h1.1)
  | dic ks ds =>
    cases e
    obtain ⟨a, vs, rfl, h1, _⟩ := h
    exact .base (.dK h1.1)
  | _ => cases e
theorem c_isi : JCW Z (rIsi Z.K) dIsi := fun x d Er H p S Q hx s q => by
  unfold dIsi at q
  split at q
  · rename_i d n
    obtain ⟨b, e, q⟩ := q.opt
    cases et : tyN d with
    | none => rw [et] at e; cases e
    | some t =>
      rw [et] at e
      have e : kitB t n = some b := e
      obtain ⟨v, r, rfl, h1, h2⟩ := hx
      obtain ⟨w, rfl, hw⟩ := isDs_one h2
      rw [isD_ty.mp hw]
      exact ⟨v, .ty n, _, _, b, rfl, .ty n, tyx_of h1 et, kit_ty e, q.pure xE s _ (isD_bl.mpr rfl)⟩
  · exact (bad_no q).elim
/-- repr -/
def okShow (y : PyData) : Bool := y.showable && !y.hasDict && decide (y.depth ≤ 64) && decide (y.shown.length ≤ sizeLine) && (match y with | .int i => decide (i.natAbs.log2 < 1920) | _ => true)
def dRepr (ds : List Dat) : M Dat := match ds with
  | [d] => M.opt (toPy d) >>= fun y => M.need (okShow y) >>= fun _ => pure (.str y.shown)
  | _ => M.no
theorem c_repr : JCW Z (Zg.rReprD Z.K) dRepr := fun x d Er H p S Q hx s q => by
  unfold dRepr at q
  split at q
  · obtain ⟨y, e, q⟩ := q.opt
    obtain ⟨c, q⟩ := q.need
    obtain ⟨v, rfl, hv⟩ := isWs_one hx
    unfold okShow at c
    simp only [Bool.and_eq_true, decide_eq_true_eq, Bool.not_eq_true'] at c
    refine ⟨v, y, rfl, hv.dp e, c.1.1.1.1, c.1.1.1.2, c.1.1.2, c.1.2, fun i z => ?_, q.pure xE s _ (isD_str.mpr rfl)⟩
    subst z
    have hd := hv.dp e
    cases hd
    have c2 := c.2
    simp only [decide_eq_true_eq] at c2
    exact c2
  · exact (bad_no q).elim
def dStr (ds : List Dat) : M Dat := match ds with
  | [.int i] => M.need (decide (i.natAbs.log2 < 1920)) >>= fun _ => pure (.str (toString i))
  | _ => M.no
theorem c_str : JC Z (IsDs Z) (IsD Z) (fun xs H Q => ∃ i, xs = [.int i] ∧ i.natAbs.log2 < 1920 ∧ Q (.str (toString i)) H) dStr := fun x d Er H p S Q hx s q => by
  unfold dStr at q
  split at q
  · obtain ⟨c, q⟩ := q.need
    obtain ⟨v, rfl, h1⟩ := isDs_one hx
    exact ⟨_, by rw [isD_int.mp h1], of_decide_eq_true c, q.pure xE s _ (isD_str.mpr rfl)⟩
  · exact (bad_no q).elim
/-- no-argument methods of a text that tell a truth -/
def dM0 (f : Str → Bool) (d : Dat) : M Dat := match d with
  | .str x => pure (.bl (f x))
  | _ => M.no
end
end Zd

namespace Zd
open PySem PySem.Spec PyProof.Rows L2

/-! ### a def's body, its calls -/
/-- what is raised: an error of the class c, its fields ns with the values ds -/
def ErOf (Z : Cz) (E : XK) : ErW := fun c fs _ H α γ => ∀ ns ds, fs = [.obj c ns ds] → ∀ (d : Addr) (H' : Hp) (vs : List V), H d = none → Same H H' → H' d = some (.xd (ns.zip vs)) → ns.length = vs.length → IsDs Z H' ⟨α, [], γ⟩ vs ds → E (.ref (Z.κ c)) (some d) H'
def spD (Z : Cz) (n : Nat) (F : List Dat → M Dat) : Sp := fun vs H Q E => vs.length = n ∧ ∃ (p : Pl) (ds : List Dat) (S : List Dat), p.ω = [] ∧ IsDs Z H p vs ds ∧ IsS Z H p S ∧
  Post Z (ErOf Z E) ExtE (F ds S) H p (fun d _ H' p' => ∀ v, IsD Z H' p' v d → Q v H')
def startE (N : Nat) (ds : List Dat) : Env := ds.map some ++ List.replicate (N - ds.length) none
def outF : Flow → M Dat
  | .rt d => pure d
  | .nx _ => pure .non
  | _ => M.no
def runD (N : Nat) (b : Env → M Flow) (ds : List Dat) : M Dat := b (startE N ds) >>= outF
section
variable {Z : Cz} {Er : ErW} {O : List Nat} {te ta tb : TE} {ts : TS} {tl : TA} {m m1 m2 : Env → M Dat} {ml : Env → M (List Dat)} {ms : Env → M Flow}
theorem IsDs.start {H : Hp} {p : Pl} : ∀ {ds : List Dat} {vs : List V} {i : Nat} {d : Dat} {k l : Nat}, IsDs Z H p vs ds → (ds.map some ++ List.replicate k none)[i]? = some (some d) → i < ds.length ∧ ∃ v, (vs.map some ++ List.replicate l none)[i]? = some (some v) ∧ IsD Z H p v d := by
  intro ds vs i d k l h e
  have hl := h.len
  by_cases c : i < ds.length
  · rw [List.getElem?_append_left (by rw [List.length_map]; exact c), List.getElem?_map] at e
    cases q : ds[i]? with
    | none => rw [q] at e; cases e
    | some x =>
      rw [q] at e
      cases e
      obtain ⟨v, h1, h2⟩ := h.get q
      refine ⟨c, v, ?_, h2⟩
      rw [List.getElem?_append_left (by rw [List.length_map, hl]; exact c), List.getElem?_map, h1]
      rfl
  · rw [List.getElem?_append_right (by rw [List.length_map]; omega)] at e
    rw [List.getElem?_replicate] at e
    split at e <;> cases e
theorem isE_start {H : Hp} {p : Pl} {N : List Str} {ds : List Dat} {vs : List V} (h : IsDs Z H p vs ds) (hO : ∀ i ∈ O, ds.length ≤ i) : IsE Z O H p (L2.start N vs) (startE N.length ds) := by
  have hl := h.len
  refine ⟨?_, fun i d _ q => (h.start q).2, fun i d oi q => ?_, fun i j a oi oj ne hi hj q => ?_⟩
  · unfold L2.start startE
    rw [List.length_append, List.length_append, List.length_map, List.length_map, List.length_replicate, List.length_replicate, hl]
  · have z := (IsDs.start (l := 0) h q).1
    have := hO i oi
    omega
  · obtain ⟨d, hi⟩ := hi
    have z := (IsDs.start (l := 0) h hi).1
    have := hO i oi
    omega
theorem IsW.exit {H : Hp} {p : Pl} {S : List Dat} (s : IsS Z H p S) {v : V} {d : Dat} (h : IsW Z H p v d) : IsD Z H ⟨p.α, [], p.γ⟩ v d := by
  have l2 : ∀ b, (⟨p.α, [], p.γ⟩ : Pl).has b → p.has b := fun b h => h.imp id fun h => .inr (h.resolve_left List.not_mem_nil)
  have k : ∀ (ds : List Dat) {vs : List V}, IsDs Z H p vs ds → IsDs Z H ⟨p.α, [], p.γ⟩ vs ds := fun ds _ h => IsDs.less (p := p) (p' := ⟨p.α, [], p.γ⟩) rfl l2 _ h
  have nh : ∀ {a : Addr}, a ∉ p.α → a ∉ p.γ → ¬ (⟨p.α, [], p.γ⟩ : Pl).has a := fun h1 h2 h => h.elim h1 fun h => h.elim List.not_mem_nil h2
  cases d with
  | lst ds => obtain ⟨a, vs, rfl, ⟨h1, n1, n2⟩, h2⟩ := h; exact isD_lst.mpr ⟨a, vs, rfl, ⟨h1, nh n1 n2⟩, k _ h2⟩
  | dic ks ds => obtain ⟨a, vs, rfl, ⟨h1, n1, n2⟩, hl, h2⟩ := h; exact isD_dic.mpr ⟨a, vs, rfl, ⟨h1, nh n1 n2⟩, hl, k _ h2⟩
  | obj c fs ds => obtain ⟨a, vs, rfl, ⟨h1, n1, n2⟩, hl, h2⟩ := h; exact isD_obj.mpr ⟨a, vs, rfl, ⟨h1, nh n1 n2⟩, hl, k _ h2⟩
  | non => exact IsD.less (p := p) (p' := ⟨p.α, [], p.γ⟩) rfl l2 _ h
  | bl b => exact IsD.less (p := p) (p' := ⟨p.α, [], p.γ⟩) rfl l2 _ h
  | int i => exact IsD.less (p := p) (p' := ⟨p.α, [], p.γ⟩) rfl l2 _ h
  | str x => exact IsD.less (p := p) (p' := ⟨p.α, [], p.γ⟩) rfl l2 _ h
  | tup ds => exact IsD.less (p := p) (p' := ⟨p.α, [], p.γ⟩) rfl l2 _ h
  | loc n => exact IsD.less (p := p) (p' := ⟨p.α, [], p.γ⟩) rfl l2 _ h
  | ty n => exact IsD.less (p := p) (p' := ⟨p.α, [], p.γ⟩) rfl l2 _ h
  | cls n => exact IsD.less (p := p) (p' := ⟨p.α, [], p.γ⟩) rfl l2 _ h
  | scr n => exact IsD.less (p := p) (p' := ⟨p.α, [], p.γ⟩) rfl l2 _ h
/-- from the entry (H0, p0) to a frame's end -/
theorem Post.exit {α : Type} {o : Out α} {H0 H : Hp} {p0 p : Pl} {C : α → List Dat → Hp → Pl → Prop} (q : Post Z Er ExtE o H0 p0 C) (h0 : p0.ω = []) (e0 : Ext H0 p0 H p) : Post Z Er Ext o H p (fun a S' H' p' => C a S' H' ⟨p'.α, [], p'.γ⟩) := by
  have key : ∀ H' p' S', Ext H p H' p' → IsS Z H' p' S' → ExtE H0 p0 H' ⟨p'.α, [], p'.γ⟩ ∧ IsS Z H' ⟨p'.α, [], p'.γ⟩ S' := fun H' p' S' e s => by
    have e2 := e0.trans e
    refine ⟨⟨e2.α, h0.symm, e2.γ, fun a o h n => e2.k a o h n (by rw [h0]; exact List.not_mem_nil), e2.t⟩, s.less fun a h => absurd h List.not_mem_nil⟩
  unfold Post at q ⊢
  cases o with
  | ok a S2 => exact fun H' p' e s => q H' ⟨p'.α, [], p'.γ⟩ (key H' p' S2 e s).1 (key H' p' S2 e s).2
  | er a b S2 => exact fun H' p' e s => q H' ⟨p'.α, [], p'.γ⟩ (key H' p' S2 e s).1 (key H' p' S2 e s).2
  | bad => exact q
/-- THE RULE: a body's reading from what it does with trees -/
theorem ok_body {N : List Str} {n : Nat} {vs : List V} {H : Hp} {Q : VK} {E : XK} (hj : JS Z (ErOf Z E) O ts ms) (hO : ∀ i ∈ O, n ≤ i) (h : spD Z n (runD N.length ms) vs H Q E) : ts { nx := fun _ H' => Q .non H', rt := Q } (L2.start N vs) H := by
  obtain ⟨hl, p, ds, S, h0, hd, hS, q⟩ := h
  refine hj (L2.start N vs) H p (startE N.length ds) S _ (isE_start hd fun i oi => by rw [← hd.len, hl]; exact hO i oi) hS ?_
  have q2 := (q.exit h0 Ext.refl).bnd xS
  refine q2.mono fun f S' H' p' e s q3 => ?_
  cases f with
  | rt d => exact fun v hv => Post.pure xS q3 s v (hv.exit s)
  | nx ρ => exact fun σ hσ => Post.pure xS q3 s .non (isD_non.mpr rfl)
  | bk ρ => exact (bad_no (S := S') q3).elim
  | ct ρ => exact (bad_no (S := S') q3).elim
/-- what is raised is not spoken of -/
def calm {α : Type} (m : M α) : M α := fun S => match m S with
  | .ok a S' => .ok a S'
  | _ => .bad
theorem Post.never {α : Type} {o : Out α} {H : Hp} {p : Pl} {X : XR} {C : α → List Dat → Hp → Pl → Prop} (q : Post Z (fun _ _ _ _ _ _ => False) X o H p C) (Er' : ErW) : Post Z Er' X o H p C := by
  unfold Post at q ⊢
  cases o with
  | ok a S' => exact q
  | er c fs S' => exact fun H' p' e s => (q H' p' e s).elim
  | bad => exact q
theorem Post.calm {α : Type} {m : M α} {S : List Dat} {H : Hp} {p : Pl} {X : XR} {C : α → List Dat → Hp → Pl → Prop} (q : Post Z Er X (Zd.calm m S) H p C) (Er' : ErW) : Post Z Er' X (m S) H p C := by
  unfold Zd.calm at q
  cases z : m S with
  | ok a S' => rw [z] at q; exact q
  | er c fs S' => rw [z] at q; exact q.elim
  | bad => rw [z] at q; exact q.elim
def xCall (F : List Dat → M Dat) (l : Env → M (List Dat)) (ρ : Env) : M Dat := l ρ >>= fun ds => calm (F ds)
/-- the callee may not touch the caller's own places -/
def Pl.shut (p : Pl) : Pl := ⟨p.α, [], p.γ ++ p.ω⟩
theorem shut_has {p : Pl} {a : Addr} : p.shut.has a ↔ p.has a := by
  unfold Pl.shut Pl.has
  constructor
  · rintro (h | h | h)
    · exact .inl h
    · exact absurd h List.not_mem_nil
    · exact .inr ((List.mem_append.mp h).symm)
  · rintro (h | h | h)
    · exact .inl h
    · exact .inr (.inr (List.mem_append_right _ h))
    · exact .inr (.inr (List.mem_append_left _ h))
theorem IsS.shut {H : Hp} {p : Pl} {S : List Dat} (s : IsS Z H p S) : IsS Z H p.shut S :=
  ⟨s.len, s.nd, fun a h => absurd h List.not_mem_nil, fun a h => (List.mem_append.mp h).elim (s.dg a) fun h => (s.dj a h).1, fun a h => s.wt a (h.elim (fun h => absurd h List.not_mem_nil) fun h => (List.mem_append.mp h).symm),
    fun n a d h1 h2 => IsTop.less (p := p) (p' := p.shut) rfl (fun a h => shut_has.mp h) (s.at_ n a d h1 h2)⟩
theorem Post.shut {α : Type} {o : Out α} {H : Hp} {p : Pl} {C : α → List Dat → Hp → Pl → Prop} (hS : ∀ a ∈ p.ω, a ∉ p.γ) (nd : ∀ a ∈ p.ω, H a ≠ none) (q : Post Z Er ExtE o H p C) (hEr : ∀ c fs S H α γ, Er c fs S H α γ → False) :
    Post Z Er ExtE o H p.shut (fun a S' H' p' => C a S' H' ⟨p'.α, p.ω, p.γ⟩) := by
  have key : ∀ H' p' S', ExtE H p.shut H' p' → IsS Z H' p' S' → ExtE H p H' ⟨p'.α, p.ω, p.γ⟩ ∧ IsS Z H' ⟨p'.α, p.ω, p.γ⟩ S' := fun H' p' S' e s => by
    have eg : p'.γ = p.γ ++ p.ω := e.γ
    have ew : p'.ω = [] := e.ω
    refine ⟨⟨e.α, rfl, rfl, e.k, e.t⟩, ⟨s.len, s.nd, fun a h => ⟨s.dg a (by rw [eg]; exact List.mem_append_right _ h), hS a h⟩, fun a h => s.dg a (by rw [eg]; exact List.mem_append_left _ h), fun a h => s.wt a (.inr (by rw [eg]; exact h.elim (List.mem_append_right _) (List.mem_append_left _))), fun n a d h1 h2 => IsTop.less (p := p') (p' := ⟨p'.α, p.ω, p.γ⟩) rfl (fun b hb => ?_) (s.at_ n a d h1 h2)⟩⟩
    rcases hb with hb | hb | hb
    · exact .inl hb
    · exact .inr (.inr (by rw [eg]; exact List.mem_append_right _ hb))
    · exact .inr (.inr (by rw [eg]; exact List.mem_append_left _ hb))
  unfold Post at q ⊢
  cases o with
  | ok a S2 => exact fun H' p' e s => q H' ⟨p'.α, p.ω, p.γ⟩ (key H' p' S2 e s).1 (key H' p' S2 e s).2
  | er a b S2 => exact fun H' p' e s => (hEr _ _ _ _ _ _ (q H' ⟨p'.α, p.ω, p.γ⟩ (key H' p' S2 e s).1 (key H' p' S2 e s).2)).elim
  | bad => exact q
theorem IsDs.shut {H : Hp} {p : Pl} {vs : List V} {ds : List Dat} (h : IsDs Z H p vs ds) : IsDs Z H p.shut vs ds := IsDs.less (p := p) (p' := p.shut) rfl (fun a h => shut_has.mp h) _ h
theorem IsD.unshut {H : Hp} {p p' : Pl} (eg : p'.γ = p.γ ++ p.ω) (ew : p'.ω = []) {v : V} {d : Dat} (h : IsD Z H p' v d) : IsD Z H ⟨p'.α, p.ω, p.γ⟩ v d := IsD.less (p := p') (p' := ⟨p'.α, p.ω, p.γ⟩) rfl (fun b hb => by
    rcases hb with hb | hb | hb
    · exact .inl hb
    · exact .inr (.inr (by rw [eg]; exact List.mem_append_right _ hb))
    · exact .inr (.inr (by rw [eg]; exact List.mem_append_left _ hb))) _ h
/-- what a call asks of its promise -/
theorem call_sp {F : List Dat → M Dat} {n : Nat} {H : Hp} {p : Pl} {S : List Dat} {vs : List V} {ds : List Dat} {Q : VK} {E : XK} (hn : vs.length = n) (hd : IsDs Z H p vs ds) (hS : IsS Z H p S) (q : Post Z Er ExtE (calm (F ds) S) H p (fun d _ H' p' => ∀ v, IsD Z H' p' v d → Q v H')) : spD Z n F vs H Q E := by
  refine ⟨hn, p.shut, ds, S, rfl, hd.shut, hS.shut, ?_⟩
  have z := (q.calm (fun _ _ _ _ _ _ => False)).shut (fun a h => (hS.dj a h).2) (fun a h => hS.wt a (.inl h)) (fun _ _ _ _ _ _ h => h)
  exact (z.mono fun d S' H' p' e s k v hv => k v (hv.unshut e.γ e.ω)).never (ErOf Z E)
theorem j_call {F : List Dat → M Dat} {n : Nat} {E : XK} (hl : JA Z Er O tl ml) (hn : ∀ ρ S ds S', ml ρ S = .ok ds S' → ds.length = n) : JD Z Er O (tCall (spD Z n F) [] E tl) (xCall F ml) := fun σ H p ρ S Q hE hS q => by
  refine hl σ H p ρ S _ hE hS ?_
  have q2 := q.bnd xE
  unfold Post at q2 ⊢
  cases z : ml ρ S with
  | ok ds S1 =>
    rw [z] at q2
    intro H1 p1 e1 s1 vs hv
    have hlen := hn ρ S ds S1 z
    show spD Z n F (vs ++ []) H1 Q E
    rw [List.append_nil]
    exact call_sp (hv.len.trans hlen) hv s1 (q2 H1 p1 e1 s1)
  | er c fs S1 => rw [z] at q2; exact q2
  | bad => rw [z] at q2; exact q2
theorem len_nil {ρ : Env} {S ds S' : List Dat} (h : xNil ρ S = .ok ds S') : ds.length = 0 := by cases h; rfl
theorem len_cons {a : Env → M Dat} {l : Env → M (List Dat)} {n : Nat} (hl : ∀ ρ S ds S', l ρ S = .ok ds S' → ds.length = n) : ∀ ρ S ds S', xCons a l ρ S = .ok ds S' → ds.length = n + 1 := fun ρ S ds S' h => by
  unfold xCons at h
  rw [m_bind] at h
  cases z : a ρ S with
  | ok x S1 =>
    rw [z] at h
    simp only [m_bind] at h
    cases z2 : l ρ S1 with
    | ok xs S3 =>
      rw [z2] at h
      cases h
      exact congrArg (· + 1) (hl ρ S1 xs _ z2)
    | er c fs S2 => rw [z2] at h; cases h
    | bad => rw [z2] at h; cases h
  | er c fs S1 => rw [z] at h; cases h
  | bad => rw [z] at h; cases h

/-! ### fields, own slots, instances -/
def lkD (f : Str) : List Str → List Dat → Option Dat
  | g :: gs, d :: ds => if f == g then some d else lkD f gs ds
  | _, _ => none
def putN (f : Str) : List Str → List Str
  | [] => [f]
  | g :: gs => if g = f then g :: gs else g :: putN f gs
def putV (f : Str) (x : Dat) : List Str → List Dat → List Dat
  | [], _ => [x]
  | g :: gs, d :: ds => if g = f then x :: ds else d :: putV f x gs ds
  | _ :: _, [] => []
theorem lk_rel {H : Hp} {p : Pl} {f : Str} : ∀ {gs : List Str} {ds : List Dat} {vs : List V} {d : Dat}, IsDs Z H p vs ds → lkD f gs ds = some d → ∃ v, (gs.zip vs).lookup f = some v ∧ IsD Z H p v d
  | [], ds, _, d, _, e => by cases ds <;> cases e
  | g :: gs, [], _, d, h, e => by cases e
  | g :: gs, c :: ds, _, d, h, e => by
    obtain ⟨v, r, rfl, h1, h2⟩ := isDs_cons.mp h
    unfold lkD at e
    rw [List.zip_cons_cons, List.lookup_cons]
    cases q : f == g with
    | true =>
      rw [q, if_pos rfl] at e
      cases e
      exact ⟨v, rfl, h1⟩
    | false =>
      rw [q] at e
      exact lk_rel h2 e
theorem put_rel {H : Hp} {p : Pl} {f : Str} {x : Dat} {y : V} (hx : IsD Z H p y x) : ∀ {gs : List Str} {ds : List Dat} {vs : List V}, gs.length = vs.length → IsDs Z H p vs ds → ∃ ws, putF f y (gs.zip vs) = (putN f gs).zip ws ∧ (putN f gs).length = ws.length ∧ IsDs Z H p ws (putV f x gs ds)
  | [], ds, vs, hl, h => by
    have e : vs = [] := List.length_eq_zero_iff.mp hl.symm
    subst e
    exact ⟨[y], rfl, rfl, .one hx⟩
  | g :: gs, [], vs, hl, h => by rw [isDs_nil.mp h] at hl; cases hl
  | g :: gs, c :: ds, _, hl, h => by
    obtain ⟨v, r, rfl, h1, h2⟩ := isDs_cons.mp h
    unfold putN putV
    rw [List.zip_cons_cons]
    unfold putF
    by_cases c : g = f
    · rw [if_pos c, if_pos c, if_pos c]
      exact ⟨y :: r, rfl, hl, isDs_cons.mpr ⟨y, r, rfl, hx, h2⟩⟩
    · rw [if_neg c, if_neg c, if_neg c]
      obtain ⟨ws, e1, e2, e3⟩ := put_rel (f := f) hx (gs := gs) (ds := ds) (vs := r) (Nat.succ.inj hl) h2
      exact ⟨v :: ws, by rw [List.zip_cons_cons, e1], by rw [List.length_cons, List.length_cons, e2], isDs_cons.mpr ⟨v, ws, rfl, h1, e3⟩⟩
/-- the attributes of the class c -/
structure ClsT (Z : Cz) (c : String) (fs : List Str) : Prop where
  cl : Cls Z.K (Z.κ c)
  no : ∀ f ∈ fs, NoAttr Z.K (Z.κ c) f
def dFld (c : String) (f : Str) (d : Dat) : M Dat := match d with
  | .obj c' fs ds => M.need (decide (c' = c)) >>= fun _ => M.opt (lkD f fs ds)
  | _ => M.no
theorem j_fld {c : String} {f : Str} {fs : List Str} (T : ClsT Z c fs) (hf : f ∈ fs) (h : JW Z Er O ta m) : JD Z Er O (tFld Z.K ta f) (xUn (dFld c f) m) := fun σ H p ρ S Q hE hS q =>
  h σ H p ρ S _ hE hS ((q.bnd xE).mono fun d S1 H1 p1 e1 s1 q1 v hv => by
    unfold dFld at q1
    split at q1
    · rename_i c' gs ds
      obtain ⟨ec, q2⟩ := Post.need q1
      clear q1
      have ec := of_decide_eq_true ec
      subst ec
      obtain ⟨x, ex, k⟩ := opt_pure xE q2 s1
      obtain ⟨a, vs, rfl, h1, hl, h2⟩ := hv
      obtain ⟨dx, ha⟩ := h1.1
      obtain ⟨w, e1, e2⟩ := lk_rel h2 ex
      exact ⟨a, _, dx, _, w, rfl, ha, T.cl, T.no f hf, e1, k w e2⟩
    · exact (bad_no (S := S1) q1).elim)
/-- an own slot's object is written -/
theorem own_put {H : Hp} {p : Pl} {σ : L2.St} {ρ : Env} {i : Nat} {a : Addr} {d d' : Dat} {o : HO} (hE : IsE Z O H p σ ρ) (oi : i ∈ O) (hρ : ρ[i]? = some (some d)) (hσ : σ[i]? = some (some (.ref a))) (ha : a ∈ p.ω)
    (ht : IsTop Z (L2.upd H a o) p a d') : IsE Z O (L2.upd H a o) p σ (ρ.set i (some d')) := by
  have e : Ext H p (L2.upd H a o) p := ext_put ha
  have lt := (List.getElem?_eq_some_iff.mp hρ).1
  have step : ∀ (j : Nat) (x : Dat), (ρ.set i (some d'))[j]? = some (some x) → (j = i ∧ x = d') ∨ (j ≠ i ∧ ρ[j]? = some (some x)) := fun j x q => by
    by_cases c : i = j
    · subst c
      rw [List.getElem?_set_self lt] at q
      cases q
      exact .inl ⟨rfl, rfl⟩
    · rw [List.getElem?_set_ne c] at q
      exact .inr ⟨fun z => c z.symm, q⟩
  have has : ∀ j : Nat, (∃ x, (ρ.set i (some d'))[j]? = some (some x)) → ∃ x, ρ[j]? = some (some x) := fun j ⟨x, q⟩ => by
    rcases step j x q with ⟨rfl, _⟩ | ⟨_, q⟩
    · exact ⟨d, hρ⟩
    · exact ⟨x, q⟩
  refine ⟨by rw [List.length_set]; exact hE.len, fun j x nj q => ?_, fun j x oj q => ?_, fun j k b oj ok ne hj hk => hE.dj j k b oj ok ne (has j hj) (has k hk)⟩
  · rcases step j x q with ⟨rfl, _⟩ | ⟨_, q⟩
    · exact absurd oi nj
    · obtain ⟨v, h1, h2⟩ := hE.get j x nj q
      exact ⟨v, h1, h2.ext e⟩
  · rcases step j x q with ⟨rfl, rfl⟩ | ⟨ne, q⟩
    · exact ⟨a, hσ, ha, ht⟩
    · obtain ⟨b, h1, h2, h3⟩ := hE.own j x oj q
      refine ⟨b, h1, h2, h3.ext e fun u z => ?_⟩
      rw [upd_ne fun c => ?_]
      · exact z
      · subst c
        exact hE.dj j i b oj oi ne ⟨x, q⟩ ⟨d, hρ⟩ h1 hσ
/-- x = a new list | dict, the slot is own -/
def sAsgO (i : Nat) (a : Env → M Dat) (ρ : Env) : M Flow := a ρ >>= fun d => pure (.nx (ρ.set i (some d)))
theorem js_asgO {i : Nat} (oi : i ∈ O) (h : JF Z Er O ta m) : JS Z Er O (tAsg ta (gName i)) (sAsgO i m) := fun σ H p ρ S D hE hS q =>
  h σ H p ρ S _ hE hS ((q.bndK.of xS).mono fun d S1 H1 p1 e1 s1 q1 a na na1 nh hs ht => by
    show D.nx (σ.set i (some (.ref a))) H1
    have eP : ExtC H p H1 ⟨p1.α, p1.ω ++ [a], p1.γ⟩ := by
      have z := ExtC.plus (p := p) (α' := p1.α) ⟨e1.α, rfl, rfl, e1.k, e1.t⟩ na
      rw [← e1.ω, ← e1.γ] at z
      exact z
    refine q1 H1 _ eP.s hs _ ?_
    have mA : a ∈ p1.ω ++ [a] := List.mem_append_right _ (List.mem_singleton.mpr rfl)
    have ltO : ∀ x, ρ[i]? = some x → i < σ.length := fun x q => by rw [hE.len]; exact (List.getElem?_eq_some_iff.mp q).1
    have step : ∀ (j : Nat) (x : Dat), (ρ.set i (some d))[j]? = some (some x) → (j = i ∧ x = d ∧ i < σ.length) ∨ (j ≠ i ∧ ρ[j]? = some (some x)) := fun j x q => by
      by_cases c : i = j
      · subst c
        rw [List.getElem?_set_self'] at q
        cases z : ρ[i]? with
        | none => rw [z] at q; cases q
        | some w => rw [z] at q; cases q; exact .inl ⟨rfl, rfl, ltO w z⟩
      · rw [List.getElem?_set_ne c] at q
        exact .inr ⟨fun z => c z.symm, q⟩
    have old : ∀ (j : Nat) (x : Dat), j ∈ O → ρ[j]? = some (some x) → σ[j]? ≠ some (some (.ref a)) := fun j x oj q => by
      obtain ⟨b, h1, h2, h3⟩ := hE.own j x oj q
      rw [h1]
      intro c
      cases c
      exact hS.wt a (.inl h2) na
    refine ⟨by rw [List.length_set, List.length_set]; exact hE.len, fun j x nj q => ?_, fun j x oj q => ?_, fun j k b oj ok ne hj hk q => ?_⟩
    · rcases step j x q with ⟨rfl, _⟩ | ⟨ne, q⟩
      · exact absurd oi nj
      · obtain ⟨v, h1, h2⟩ := hE.get j x nj q
        rw [List.getElem?_set_ne fun z => ne z.symm]
        exact ⟨v, h1, h2.ext eP.s⟩
    · rcases step j x q with ⟨rfl, rfl, lt⟩ | ⟨ne, q⟩
      · rw [List.getElem?_set_self lt]
        exact ⟨a, rfl, mA, ht⟩
      · obtain ⟨b, h1, h2, h3⟩ := hE.own j x oj q
        rw [List.getElem?_set_ne fun z => ne z.symm]
        exact ⟨b, h1, List.mem_append_left _ (by rw [e1.ω]; exact h2), h3.ext eP.s fun u z => e1.k _ _ z (hS.dj b h2).1⟩
    · obtain ⟨x, hj⟩ := hj
      have hj0 := hj
      obtain ⟨y, hk⟩ := hk
      rcases step j x hj with ⟨rfl, _, lt⟩ | ⟨nj, hj⟩
      · rcases step k y hk with ⟨rfl, _⟩ | ⟨nk, hk⟩
        · exact absurd rfl ne
        · rw [List.getElem?_set_self lt] at q
          cases q
          rw [List.getElem?_set_ne fun z => nk z.symm]
          exact old k y ok hk
      · rw [List.getElem?_set_ne fun z => nj z.symm] at q
        rcases step k y hk with ⟨rfl, _, lt⟩ | ⟨nk, hk⟩
        · rw [List.getElem?_set_self lt]
          intro c
          cases c
          rcases step j x hj0 with ⟨z, _⟩ | ⟨_, hj1⟩
          · exact absurd z nj
          · exact old j x oj hj1 q
        · rw [List.getElem?_set_ne fun z => nk z.symm]
          exact hE.dj j k b oj ok ne ⟨x, hj⟩ ⟨y, hk⟩ q)
def objAt (ρ : Env) (i : Nat) : Option (String × List Str × List Dat) := match ρ[i]? with
  | some (some (.obj c fs ds)) => some (c, fs, ds)
  | _ => none
def lstAt (ρ : Env) (i : Nat) : Option (List Dat) := match ρ[i]? with
  | some (some (.lst ds)) => some ds
  | _ => none
def locAt (ρ : Env) (i : Nat) : Option Nat := match ρ[i]? with
  | some (some (.loc n)) => some n
  | _ => none
theorem objAt_is {ρ : Env} {i : Nat} {c : String} {fs : List Str} {ds : List Dat} (h : objAt ρ i = some (c, fs, ds)) : ρ[i]? = some (some (.obj c fs ds)) := by
  unfold objAt at h
  split at h
  · cases h; assumption
  · cases h
theorem lstAt_is {ρ : Env} {i : Nat} {ds : List Dat} (h : lstAt ρ i = some ds) : ρ[i]? = some (some (.lst ds)) := by
  unfold lstAt at h
  split at h
  · cases h; assumption
  · cases h
theorem locAt_is {ρ : Env} {i : Nat} {n : Nat} (h : locAt ρ i = some n) : ρ[i]? = some (some (.loc n)) := by
  unfold locAt at h
  split at h
  · cases h; assumption
  · cases h
def one {α : Type} : List α → Option α
  | [d] => some d
  | _ => none
theorem one_is {α : Type} {ds : List α} {d : α} (h : one ds = some d) : ds = [d] := by
  unfold one at h
  split at h
  · cases h; rfl
  · cases h
def dInt1 : Dat → Option Int
  | .int i => some i
  | _ => none
theorem dInt1_is {d : Dat} {i : Int} (h : dInt1 d = some i) : d = .int i := by
  cases d <;> first | (cases h; rfl) | cases h
/-- self.f = e, self the frame's own -/
def sSetF (c : String) (i : Nat) (f : Str) (a : Env → M Dat) (ρ : Env) : M Flow := a ρ >>= fun x => M.opt (objAt ρ i) >>= fun o => M.need (decide (o.1 = c) && decide (o.2.1.length < 1000)) >>= fun _ =>
  pure (.nx (ρ.set i (some (.obj o.1 (putN f o.2.1) (putV f x o.2.1 o.2.2)))))
theorem js_setF {c : String} {i : Nat} {f : Str} {fs : List Str} (T : ClsT Z c fs) (hf : f ∈ fs) (oi : i ∈ O) (h : JD Z Er O te m) : JS Z Er O (sFld Z.K (tVar i) te f) (sSetF c i f m) := fun σ H p ρ S D hE hS q =>
  h σ H p ρ S _ hE hS (q.bndE.mono fun d S1 H1 p1 e1 s1 q1 v hv => by
    have hE1 := hE.ext e1 hS
    obtain ⟨⟨c', gs, ds⟩, eo, q1⟩ := Post.opt q1
    have eρ := objAt_is eo
    obtain ⟨ec, q2⟩ := Post.need q1
    clear q1
    simp only [Bool.and_eq_true, decide_eq_true_eq] at ec
    obtain ⟨ec, few⟩ := ec
    subst ec
    obtain ⟨a, h1, h2, dx, vs, h3, hl, h4⟩ := hE1.own i _ oi eρ
    refine ⟨_, h1, a, _, dx, _, rfl, h3, T.cl, T.no f hf, by rw [List.length_zip, ← hl, Nat.min_self]; exact few, ?_⟩
    obtain ⟨ws, g1, g2, g3⟩ := put_rel (f := f) hv hl h4
    rw [g1]
    exact q2 _ _ (ext_put h2) (s1.put h2) _ (own_put hE1 oi eρ h1 h2 ⟨dx, ws, upd_same, g2, g3.ext (ext_put h2)⟩))
/-- x.append(e), x the frame's own -/
def sApp (i : Nat) (l : Env → M (List Dat)) (ρ : Env) : M Flow := M.opt (lstAt ρ i) >>= fun xs => l ρ >>= fun ds => M.opt (one ds) >>= fun d => M.need (decide (xs.length < 100000)) >>= fun _ => pure (.nx (ρ.set i (some (.lst (xs ++ [d])))))
theorem js_app {i : Nat} (oi : i ∈ O) (h : JA Z Er O tl ml) : JS Z Er O (tDrop (tBM Z.K "list" rAppend (tVar i) tl)) (sApp i ml) := fun σ H p ρ S D hE hS q => by
  obtain ⟨xs, el, q⟩ := Post.opt q
  have eρ := lstAt_is el
  obtain ⟨a, h1, h2, vs, h3, h4⟩ := hE.own i _ oi eρ
  refine ⟨_, h1, .inl ⟨rfl, _, SqL.of h3⟩, h σ H p ρ S _ hE hS (q.bndE.mono fun ds S1 H1 p1 e1 s1 q1 ws hws => ?_)⟩
  have hE1 := hE.ext e1 hS
  have h2' : a ∈ p1.ω := by rw [e1.ω]; exact h2
  obtain ⟨d, e1d, q1⟩ := Post.opt q1
  rw [one_is e1d] at hws
  obtain ⟨c, q2⟩ := Post.need q1
  have c := of_decide_eq_true c
  obtain ⟨v, rfl, hv⟩ := isDs_one hws
  have h3' := e1.k _ _ h3 (hS.dj a h2).1
  have sz := sizeLine_eq
  refine ⟨a, vs, v, rfl, rfl, h3', by rw [h4.len]; omega, ?_⟩
  exact q2 _ _ (ext_put h2') (s1.put h2') _ (own_put hE1 oi eρ h1 h2' ⟨vs ++ [v], upd_same, ((h4.ext e1.s).append (.one hv)).ext (ext_put h2')⟩)
/-- x.extend(e), x the frame's own -/
def sExt (i : Nat) (l : Env → M (List Dat)) (ρ : Env) : M Flow := M.opt (lstAt ρ i) >>= fun xs => l ρ >>= fun ds => M.opt (one ds) >>= fun d => M.opt (dLst d) >>= fun ys => M.need (decide (xs.length + ys.length ≤ 100000)) >>= fun _ => pure (.nx (ρ.set i (some (.lst (xs ++ ys)))))
theorem js_ext {i : Nat} (oi : i ∈ O) (h : JA Z Er O tl ml) : JS Z Er O (tDrop (tBM Z.K "list" rExtend (tVar i) tl)) (sExt i ml) := fun σ H p ρ S D hE hS q => by
  obtain ⟨xs, el, q⟩ := Post.opt q
  have eρ := lstAt_is el
  obtain ⟨a, h1, h2, vs, h3, h4⟩ := hE.own i _ oi eρ
  refine ⟨_, h1, .inl ⟨rfl, _, SqL.of h3⟩, h σ H p ρ S _ hE hS (q.bndE.mono fun ds S1 H1 p1 e1 s1 q1 ws hws => ?_)⟩
  have hE1 := hE.ext e1 hS
  have h2' : a ∈ p1.ω := by rw [e1.ω]; exact h2
  obtain ⟨d, e1d, q1⟩ := Post.opt q1
  rw [one_is e1d] at hws
  obtain ⟨ys, ey, q1⟩ := Post.opt q1
  rw [dLst_some ey] at hws
  obtain ⟨c, q2⟩ := Post.need q1
  have c := of_decide_eq_true c
  obtain ⟨v, rfl, hv⟩ := isDs_one hws
  obtain ⟨b, us, rfl, g1, g2⟩ := isD_lst.mp hv
  have h3' := e1.k _ _ h3 (hS.dj a h2).1
  refine ⟨a, b, vs, us, rfl, rfl, h3', g1.1, lim (by rw [h4.len, g2.len]; exact c), ?_⟩
  exact q2 _ _ (ext_put h2') (s1.put h2') _ (own_put hE1 oi eρ h1 h2' ⟨vs ++ us, upd_same, ((h4.ext e1.s).append g2).ext (ext_put h2')⟩)
/-! ### shared places -/
theorem loc_put {H : Hp} {p : Pl} {S : List Dat} (s : IsS Z H p S) {n : Nat} {a : Addr} {o : HO} {d : Dat} (ha : p.α[n]? = some a) (ht : IsTop Z (L2.upd H a o) p a d) : ExtE H p (L2.upd H a o) p ∧ IsS Z (L2.upd H a o) p (S.set n d) := by
  have ma : a ∈ p.α := List.mem_of_getElem? ha
  have e : ExtE H p (L2.upd H a o) p := ⟨⟨[], by simp⟩, rfl, rfl, fun b u h n => by rw [upd_ne fun z => n (by rw [z]; exact ma)]; exact h, fun b h => by
    by_cases c : b = a
    · rw [c, upd_same]; exact nofun
    · rw [upd_ne c]; exact h⟩
  refine ⟨e, ⟨by rw [List.length_set]; exact s.len, s.nd, s.dj, s.dg, fun b h => e.t b (s.wt b h), fun k b x h1 h2 => ?_⟩⟩
  by_cases c : n = k
  · subst c
    rw [ha] at h1
    cases h1
    rw [List.getElem?_set_self (by rw [← s.len]; exact (List.getElem?_eq_some_iff.mp ha).1)] at h2
    cases h2
    exact ht
  · rw [List.getElem?_set_ne c] at h2
    refine (s.at_ k b x h1 h2).ext e.s fun u z => ?_
    rw [upd_ne fun q => c ?_]
    · exact z
    · subst q
      have l1 := (List.getElem?_eq_some_iff.mp ha)
      have l2 := (List.getElem?_eq_some_iff.mp h1)
      obtain ⟨i1, g1⟩ := l1
      obtain ⟨i2, g2⟩ := l2
      exact (List.getElem_inj s.nd).mp (g1.trans g2.symm)
/-- x[i] = e, x a shared list in slot j -/
def setLo (n : Nat) (k : Int) (x : Dat) (ρ : Env) : M Flow := fun S => match S[n]? with
  | some (.lst xs) => match ixN xs.length k with
    | some q => .ok (.nx ρ) (S.set n (.lst (xs.set q x)))
    | none => .bad
  | _ => .bad
def sSetLo (j : Nat) (b a : Env → M Dat) (ρ : Env) : M Flow := a ρ >>= fun x => M.opt (locAt ρ j) >>= fun n => b ρ >>= fun i => M.opt (dInt1 i) >>= fun k => setLo n k x ρ
theorem js_setLo {j : Nat} (nj : j ∉ O) (hb : JD Z Er O tb m2) (ha : JD Z Er O ta m1) : JS Z Er O (tAsg ta (gSub (tVar j) tb rSetL)) (sSetLo j m2 m1) := fun σ H p ρ S D hE hS q =>
  ha σ H p ρ S _ hE hS (q.bndE.mono fun d S1 H1 p1 e1 s1 q1 v hv => by
    have hE1 := hE.ext e1 hS
    obtain ⟨n, eo, q1⟩ := Post.opt q1
    have eρ := locAt_is eo
    obtain ⟨u, h1, h2⟩ := hE1.get j _ nj eρ
    refine ⟨u, h1, ?_⟩
    refine hb σ H1 p1 ρ S1 _ hE1 s1 (q1.bndE.mono fun i S2 H2 p2 e2 s2 q2 w hw => ?_)
    obtain ⟨k, ek, q2⟩ := Post.opt q2
    rw [dInt1_is ek] at hw
    obtain ⟨a, rfl, hα⟩ := isD_loc.mp (h2.ext e2.s)
    cases eS : S2[n]? with
    | none => unfold setLo at q2; rw [eS] at q2; exact q2.elim
    | some dd =>
      cases dd with
      | lst xs =>
        cases ey : ixN xs.length k with
        | none => unfold setLo at q2; rw [eS] at q2; simp only [ey] at q2; exact q2.elim
        | some y =>
          have q3 : Post Z Er Ext (.ok (Flow.nx ρ) (S2.set n (.lst (xs.set y d)))) H2 p2 (fun f x H' p' => FlowOk Z O D f H' p') := by
            unfold setLo at q2; rw [eS] at q2; simp only [ey] at q2; exact q2
          obtain ⟨vs, g1, g2⟩ := s2.at_ n a _ hα eS
          refine ⟨a, vs, k, y, rfl, isD_int.mp hw, g1, by rw [g2.len]; exact ey, ?_⟩
          have ma : a ∈ p2.α := List.mem_of_getElem? hα
          have eX : Ext H2 p2 (L2.upd H2 a (.lst (vs.set y v))) p2 := ⟨⟨[], by simp⟩, ⟨[], by simp⟩, rfl, fun b u h n _ => by rw [upd_ne fun z => n (by rw [z]; exact ma)]; exact h, fun b h => by
              by_cases c : b = a
              · rw [c, upd_same]; exact nofun
              · rw [upd_ne c]; exact h⟩
          obtain ⟨e3, s3⟩ := loc_put (o := .lst (vs.set y v)) (d := .lst (xs.set y d)) s2 hα ⟨vs.set y v, upd_same, (g2.set y (hv.ext e2.s)).ext eX⟩
          exact q3 _ _ e3.s s3 σ ((hE1.ext e2 s1).ext e3 s2)
      | _ => unfold setLo at q2; rw [eS] at q2; exact q2.elim)
/-- a new list that is given back to be shared -/
def sRetLo (a : Env → M Dat) (ρ : Env) : M Flow := a ρ >>= fun d => fun S => .ok (.rt (.loc S.length)) (S ++ [d])
theorem js_retLo (h : JF Z Er O ta m) : JS Z Er O (tRet ta) (sRetLo m) := fun σ H p ρ S D hE hS q =>
  h σ H p ρ S _ hE hS ((q.bndK.of xS).mono fun d S1 H1 p1 e1 s1 q1 a na na1 nh hs ht => by
    have q2 : ∀ H' p', Ext H p H' p' → IsS Z H' p' (S1 ++ [d]) → FlowOk Z O D (.rt (.loc S1.length)) H' p' := q1
    have l2 : ∀ b, (⟨p1.α ++ [a], p1.ω, p1.γ⟩ : Pl).has b → (⟨p1.α, p1.ω ++ [a], p1.γ⟩ : Pl).has b := fun b h => by
      rcases h with h | h | h
      · rcases List.mem_append.mp h with h | h
        · exact .inl h
        · exact .inr (.inl (List.mem_append_right _ h))
      · exact .inr (.inl (List.mem_append_left _ h))
      · exact .inr (.inr h)
    have na1 : a ∉ p1.α := fun z => nh (.inl z)
    have ma : a ∈ p1.ω ++ [a] := List.mem_append_right _ (List.mem_singleton.mpr rfl)
    have hα : (p1.α ++ [a])[S1.length]? = some a := by rw [← hs.len]; simp
    refine q2 H1 ⟨p1.α ++ [a], p1.ω, p1.γ⟩ ⟨?_, ⟨[], by rw [List.append_nil]; exact e1.ω, by simp⟩, e1.γ, fun b u z n _ => e1.k b u z n, e1.t⟩ ⟨?_, ?_, fun b h => ⟨fun z => ?_, (hs.dj b (List.mem_append_left _ h)).2⟩, fun b h z => ?_, fun b h => hs.wt b (h.imp (List.mem_append_left _) id), fun n b x h1 h2 => ?_⟩ (.ref a) ?_
    · obtain ⟨β, g1, g2⟩ := e1.α
      refine ⟨β ++ [a], by rw [g1, List.append_assoc], fun b h => ?_⟩
      rcases List.mem_append.mp h with h | h
      · exact g2 b h
      · rw [List.mem_singleton.mp h]; exact na
    · rw [List.length_append, List.length_append, hs.len]; rfl
    · exact List.nodup_append.mpr ⟨hs.nd, by simp, fun b h c h2 e => na1 (by rw [← List.mem_singleton.mp h2, ← e]; exact h)⟩
    · rcases List.mem_append.mp z with z | z
      · exact (hs.dj b (List.mem_append_left _ h)).1 z
      · exact nh (.inr (.inl (by rw [← List.mem_singleton.mp z]; exact h)))
    · rcases List.mem_append.mp z with z | z
      · exact hs.dg b h z
      · exact nh (.inr (.inr (by rw [← List.mem_singleton.mp z]; exact h)))
    · have mv : ∀ (n : Nat) (x : Addr), p1.α[n]? = some x → (p1.α ++ [a])[n]? = some x := fun n x h => by
        rw [List.getElem?_append_left (List.getElem?_eq_some_iff.mp h).1]; exact h
      by_cases c : n < S1.length
      · rw [List.getElem?_append_left c] at h2
        rw [List.getElem?_append_left (by rw [hs.len]; exact c)] at h1
        exact IsTop.mv (p := ⟨p1.α, p1.ω ++ [a], p1.γ⟩) (p' := ⟨p1.α ++ [a], p1.ω, p1.γ⟩) mv l2 (hs.at_ n b x h1 h2)
      · have lt := (List.getElem?_eq_some_iff.mp h2).1
        rw [List.length_append, List.length_singleton] at lt
        have e : n = S1.length := by omega
        subst e
        rw [hα] at h1
        cases h1
        rw [List.getElem?_append_right (Nat.le_refl _), Nat.sub_self] at h2
        cases h2
        exact IsTop.mv (p := ⟨p1.α, p1.ω ++ [a], p1.γ⟩) (p' := ⟨p1.α ++ [a], p1.ω, p1.γ⟩) mv l2 ht
    · exact (isD_loc (Z := Z) (H := H1) (p := ⟨p1.α ++ [a], p1.ω, p1.γ⟩)).mpr ⟨a, rfl, hα⟩)
end
end Zd

namespace Zd
open PySem PySem.Spec PyProof.Rows L2
section
variable {Z : Cz} {Er : ErW} {O : List Nat} {te ta tb : TE} {ts : TS} {tl : TA} {m m1 m2 : Env → M Dat} {ml : Env → M (List Dat)} {ms : Env → M Flow}
/-! ### objects are shared places -/
theorem push_loc {H : Hp} {p : Pl} {S : List Dat} {x dx C : Addr} (s : IsS Z H p S) (nx : H x = none) (nd : H dx = none) (ne : dx ≠ x) (c : String) (hC : C = Z.κ c) :
    ExtE H p (L2.upd (L2.upd H dx (.own x)) x (.ins C dx [])) ⟨p.α ++ [x], p.ω, p.γ⟩ ∧ IsS Z (L2.upd (L2.upd H dx (.own x)) x (.ins C dx [])) ⟨p.α ++ [x], p.ω, p.γ⟩ (S ++ [.obj c [] []]) := by
  subst hC
  have hx := no_has s nx
  have k : ∀ a o, H a = some o → L2.upd (L2.upd H dx (.own x)) x (.ins (Z.κ c) dx []) a = some o := fun a o h => by
    rw [upd_ne (ne_of_none h nx), upd_ne (ne_of_none h nd)]; exact h
  have t : ∀ a, H a ≠ none → L2.upd (L2.upd H dx (.own x)) x (.ins (Z.κ c) dx []) a ≠ none := fun a h => by
    cases z : H a with
    | none => exact absurd z h
    | some o => rw [k a o z]; exact nofun
  have e : ExtE H p (L2.upd (L2.upd H dx (.own x)) x (.ins (Z.κ c) dx [])) ⟨p.α ++ [x], p.ω, p.γ⟩ := ⟨⟨[x], rfl, fun b h => by rw [List.mem_singleton.mp h]; exact nx⟩, rfl, rfl, fun a o h _ => k a o h, t⟩
  refine ⟨e, ⟨by rw [List.length_append, List.length_append, s.len]; rfl, List.nodup_append.mpr ⟨s.nd, by simp, fun b h c h2 e => hx (.inl (by rw [← List.mem_singleton.mp h2, ← e]; exact h))⟩, fun b h => ⟨fun z => ?_, (s.dj b h).2⟩, fun b h z => ?_, fun b h => t b (s.wt b h), fun n b d h1 h2 => ?_⟩⟩
  · rcases List.mem_append.mp z with z | z
    · exact (s.dj b h).1 z
    · exact hx (.inr (.inl (by rw [← List.mem_singleton.mp z]; exact h)))
  · rcases List.mem_append.mp z with z | z
    · exact s.dg b h z
    · exact hx (.inr (.inr (by rw [← List.mem_singleton.mp z]; exact h)))
  · by_cases q : n < S.length
    · rw [List.getElem?_append_left q] at h2
      have h1 : (p.α ++ [x])[n]? = some b := h1
      rw [List.getElem?_append_left (by rw [s.len]; exact q)] at h1
      exact (s.at_ n b d h1 h2).ext e.s fun o z => k b o z
    · have lt := (List.getElem?_eq_some_iff.mp h2).1
      rw [List.length_append, List.length_singleton] at lt
      have en : n = S.length := by omega
      subst en
      have h1 : (p.α ++ [x])[S.length]? = some b := h1
      rw [← s.len] at h1
      simp only [List.getElem?_append_right (Nat.le_refl _), Nat.sub_self] at h1 h2
      cases h1
      cases h2
      exact ⟨dx, [], upd_same, rfl, isDs_nil.mpr rfl⟩
def newObj (c : String) : M Dat := fun S => .ok (.loc S.length) (S ++ [.obj c [] []])
/-- C(..): __init__ at a new shared place -/
def mkNew (c : String) (F : List Dat → M Dat) (ds : List Dat) : M Dat := newObj c >>= fun o => calm (F (o :: ds)) >>= fun r => M.need (isNon r) >>= fun _ => pure o
theorem isNon_is {d : Dat} (h : isNon d = true) : d = .non := by cases d <;> first | rfl | cases h
theorem calm_bnd {α β : Type} {X : XR} (x : XOk X) {mm : M α} {f : α → M β} {S : List Dat} {H : Hp} {p : Pl} {C : β → List Dat → Hp → Pl → Prop} (q : Post Z Er X ((calm mm >>= f) S) H p C) : Post Z Er X (calm mm S) H p fun a S' H' p' => Post Z Er X (f a S') H' p' C := q.bnd x
theorem Post.okE {α : Type} {X : XR} {a : α} {S S' : List Dat} {H : Hp} {p : Pl} {C : α → List Dat → Hp → Pl → Prop} (q : Post Z Er X (Out.ok a S') H p C) {H' : Hp} {p' : Pl} (e : X H p H' p') (s : IsS Z H' p' S') : C a S' H' p' := q H' p' e s
theorem j_make {c : String} {F : List Dat → M Dat} {n : Nat} {E : XK} (hl : JA Z Er O tl ml) (hn : ∀ ρ S ds S', ml ρ S = .ok ds S' → ds.length = n) : JD Z Er O (tMake (Z.κ c) (spD Z (n + 1) F) [] E tl) (fun ρ => ml ρ >>= mkNew c F) := fun σ H p ρ S Q hE hS q => by
  refine hl σ H p ρ S _ hE hS ?_
  have q2 := q.bndK
  unfold Post at q2 ⊢
  cases z : ml ρ S with
  | ok ds S1 =>
    rw [z] at q2
    intro H1 p1 e1 s1 vs hv x dx nx nd ne
    have hlen := hn ρ S ds S1 z
    rw [List.append_nil]
    obtain ⟨e2, s2⟩ := push_loc s1 nx nd ne c rfl
    have q3 : Post Z Er ExtE (mkNew c F ds S1) H p _ := q2 H1 p1 e1 s1
    have q4 : Post Z Er ExtE ((calm (F (.loc S1.length :: ds)) >>= fun r => M.need (isNon r) >>= fun _ => pure (Dat.loc S1.length)) (S1 ++ [.obj c [] []])) H p _ := q3
    have q5 := (q4.up xE (e1.trans e2)).bnd xE
    have hx : IsD Z (L2.upd (L2.upd H1 dx (.own x)) x (.ins (Z.κ c) dx [])) ⟨p1.α ++ [x], p1.ω, p1.γ⟩ (.ref x) (.loc S1.length) := (isD_loc (Z := Z)).mpr ⟨x, rfl, by rw [← s1.len]; simp⟩
    refine call_sp (S := S1 ++ [.obj c [] []]) (ds := .loc S1.length :: ds) (by rw [List.length_cons, hv.len, hlen]) (isDs_cons.mpr ⟨.ref x, vs, rfl, hx, hv.ext e2.s⟩) s2 (q5.mono fun d S3 H3 p3 e3 s3 q6 v hv3 => ?_)
    obtain ⟨cn, q7⟩ := q6.need
    rw [isNon_is cn] at hv3
    exact ⟨isD_non.mp hv3, q7.pure xE s3 (.ref x) (hx.ext e3.s)⟩
  | er c fs S1 => rw [z] at q2; exact q2
  | bad => rw [z] at q2; exact q2
def getO (S : List Dat) (n : Nat) : Option (String × List Str × List Dat) := match S[n]? with
  | some (.obj c fs ds) => some (c, fs, ds)
  | _ => none
theorem getO_is {S : List Dat} {n : Nat} {c : String} {fs : List Str} {ds : List Dat} (h : getO S n = some (c, fs, ds)) : S[n]? = some (.obj c fs ds) := by
  unfold getO at h
  split at h
  · cases h; assumption
  · cases h
/-- x.f, x an instance of the class c -/
def dFldLo (c : String) (f : Str) (d : Dat) : M Dat := match d with
  | .loc n => fun S => (M.opt (getO S n) >>= fun o => M.need (decide (o.1 = c)) >>= fun _ => M.opt (lkD f o.2.1 o.2.2)) S
  | _ => M.no
theorem j_fldLo {c : String} {f : Str} {fs : List Str} (T : ClsT Z c fs) (hf : f ∈ fs) (h : JD Z Er O ta m) : JD Z Er O (tFld Z.K ta f) (xUn (dFldLo c f) m) := fun σ H p ρ S Q hE hS q =>
  h σ H p ρ S _ hE hS ((q.bnd xE).mono fun d S1 H1 p1 e1 s1 q1 v hv => by
    cases d with
    | loc n =>
      have q2 : Post Z Er ExtE ((M.opt (getO S1 n) >>= fun o => M.need (decide (o.1 = c)) >>= fun _ => M.opt (lkD f o.2.1 o.2.2)) S1) H1 p1 _ := q1
      obtain ⟨⟨c', gs, ds⟩, eo, q2⟩ := q2.opt
      obtain ⟨ec, q3⟩ := Post.need q2
      have ec := of_decide_eq_true ec
      have ec : c' = c := ec
      subst ec
      obtain ⟨x, ex, k⟩ := opt_pure xE q3 s1
      obtain ⟨a, rfl, ha⟩ := isD_loc.mp hv
      obtain ⟨dx, vs, g1, hl, h2⟩ := s1.at_ n a _ ha (getO_is eo)
      obtain ⟨w, e1, e2⟩ := lk_rel h2 ex
      exact ⟨a, _, dx, _, w, rfl, g1, T.cl, T.no f hf, e1, k w e2⟩
    | _ => exact (bad_no (S := S1) q1).elim)
/-- self.f = e, self a shared place -/
def setF (n : Nat) (c : String) (f : Str) (x : Dat) (ρ : Env) : M Flow := fun S => (M.opt (getO S n) >>= fun o => M.need (decide (o.1 = c) && decide (o.2.1.length < 1000)) >>= fun _ => fun S => .ok (.nx ρ) (S.set n (.obj o.1 (putN f o.2.1) (putV f x o.2.1 o.2.2)))) S
def dLoc : Dat → Option Nat
  | .loc n => some n
  | _ => none
theorem dLoc_is {d : Dat} {n : Nat} (h : dLoc d = some n) : d = .loc n := by
  cases d <;> first | (cases h; rfl) | cases h
def sSetFL (c : String) (f : Str) (o a : Env → M Dat) (ρ : Env) : M Flow := a ρ >>= fun x => o ρ >>= fun y => M.opt (dLoc y) >>= fun n => setF n c f x ρ
theorem loc_ext {H : Hp} {p : Pl} {a : Addr} {o : HO} (ma : a ∈ p.α) : Ext H p (L2.upd H a o) p := ⟨⟨[], by simp⟩, ⟨[], by simp⟩, rfl, fun b u h n _ => by rw [upd_ne fun z => n (by rw [z]; exact ma)]; exact h, fun b h => by
  by_cases c : b = a
  · rw [c, upd_same]; exact nofun
  · rw [upd_ne c]; exact h⟩
theorem js_setFL {c : String} {f : Str} {fs : List Str} (T : ClsT Z c fs) (hf : f ∈ fs) (ho : JD Z Er O ta m1) (h : JD Z Er O te m) : JS Z Er O (sFld Z.K ta te f) (sSetFL c f m1 m) := fun σ H p ρ S D hE hS q =>
  h σ H p ρ S _ hE hS (q.bndE.mono fun d S1 H1 p1 e1 s1 q1 v hv => ho σ H1 p1 ρ S1 _ (hE.ext e1 hS) s1 (q1.bndE.mono fun o S2 H2 p2 e2 s2 q2 w hw => by
    obtain ⟨n, en, q2⟩ := Post.opt q2
    rw [dLoc_is en] at hw
    obtain ⟨a, rfl, ha⟩ := isD_loc.mp hw
    have q3 : Post Z Er Ext ((M.opt (getO S2 n) >>= fun o => M.need (decide (o.1 = c) && decide (o.2.1.length < 1000)) >>= fun _ => fun S => .ok (Flow.nx ρ) (S.set n (.obj o.1 (putN f o.2.1) (putV f d o.2.1 o.2.2)))) S2) H2 p2 _ := q2
    obtain ⟨⟨c', gs, ds⟩, eo, q3⟩ := Post.opt q3
    obtain ⟨ec, q4⟩ := Post.need q3
    simp only [Bool.and_eq_true, decide_eq_true_eq] at ec
    obtain ⟨ec, few⟩ := ec
    subst ec
    obtain ⟨dx, vs, g1, hl, g2⟩ := s2.at_ n a _ ha (getO_is eo)
    refine ⟨a, _, dx, _, rfl, g1, T.cl, T.no f hf, by rw [List.length_zip, ← hl, Nat.min_self]; exact few, ?_⟩
    obtain ⟨ws, k1, k2, k3⟩ := put_rel (f := f) (hv.ext e2.s) hl g2
    rw [k1]
    obtain ⟨e3, s3⟩ := loc_put (o := .ins (Z.κ c') dx ((putN f gs).zip ws)) (d := .obj c' (putN f gs) (putV f d gs ds)) s2 ha ⟨dx, ws, upd_same, k2, k3.ext (loc_ext (List.mem_of_getElem? ha))⟩
    exact q4 _ _ e3.s s3 σ (((hE.ext e1 hS).ext e2 s1).ext e3 s2)))
/-- an instance of the class c -/
def isO (c : String) (d : Dat) : M Unit := match d with
  | .loc n => fun S => (M.opt (getO S n) >>= fun o => M.need (decide (o.1 = c))) S
  | _ => M.no
theorem isO_is {α : Type} {X : XR} {c : String} {d : Dat} {mm : M α} {S : List Dat} {H : Hp} {p : Pl} {C : α → List Dat → Hp → Pl → Prop} {v : V} (s : IsS Z H p S) (hv : IsD Z H p v d) (q : Post Z Er X ((isO c d >>= fun _ => mm) S) H p C) :
    (∃ a dx fs, v = .ref a ∧ H a = some (.ins (Z.κ c) dx fs)) ∧ Post Z Er X (mm S) H p C := by
  cases d with
  | loc n =>
    rw [m_bind] at q
    have e : isO c (.loc n) S = (M.opt (getO S n) >>= fun o => M.need (decide (o.1 = c))) S := rfl
    rw [e] at q
    cases eo : getO S n with
    | none => rw [eo] at q; exact q.elim
    | some o =>
      obtain ⟨c', gs, ds⟩ := o
      rw [eo] at q
      have e2 : (M.opt (some (c', gs, ds)) >>= fun o : String × List Str × List Dat => M.need (decide (o.1 = c))) S = M.need (decide (c' = c)) S := rfl
      rw [e2] at q
      by_cases ec : c' = c
      · subst ec
        rw [decide_eq_true rfl] at q
        obtain ⟨a, rfl, ha⟩ := isD_loc.mp hv
        obtain ⟨dx, vs, g1, hl, g2⟩ := s.at_ n a _ ha (getO_is eo)
        exact ⟨⟨a, dx, _, rfl, g1⟩, q⟩
      · rw [decide_eq_false ec] at q
        exact q.elim
  | _ => exact q.elim
/-- x op y by an own method of the class -/
def dOwn (c : String) (F : List Dat → M Dat) (d e : Dat) : M Dat := isO c d >>= fun _ => isO c e >>= fun _ => calm (F [d, e])
def rOwnI (C : Addr) (sp : Sp) (E : XK) : L2.R2 := fun x y H Q => ∃ a dx fs b dy gs, x = .ref a ∧ y = .ref b ∧ H a = some (.ins C dx fs) ∧ H b = some (.ins C dy gs) ∧ sp [x, y] H Q E
theorem r_own {c : String} {F : List Dat → M Dat} {E : XK} : JRD Z (rOwnI (Z.κ c) (spD Z 2 F) E) (dOwn c F) := fun x y d e Er H p S Q hx hy s q => by
  obtain ⟨⟨a, dx, fs, rfl, ha⟩, q⟩ := isO_is s hx q
  obtain ⟨⟨b, dy, gs, rfl, hb⟩, q⟩ := isO_is s hy q
  exact ⟨a, dx, fs, b, dy, gs, rfl, rfl, ha, hb, call_sp rfl (isDs_cons.mpr ⟨_, _, rfl, hx, .one hy⟩) s q⟩
/-- isinstance(x, c), x an instance of the class c -/
structure InsT (Z : Cz) (c : String) : Prop where
  cl : Cls Z.K (Z.κ c)
  ha : PySem.W.findIn Z.K (.ref (Z.κ c)) "__class__" = some (some (.builtin "object.__class__"))
  hn : PySem.W.specialIn Z.K (.builtin "object.__class__") "__get__" = some (some (.builtin "getset_descriptor.__get__"))
  htk : PySem.W.takesIn Z.K (.builtin "object.__class__") = some true
  hm : PySem.W.mroIn Z.K (Z.κ c) (.type "object") = some true
  me : PySem.W.kitOne Z.K (.ref (Z.κ c)) (.ref (Z.κ c)) = some true
def dIsiO (c : String) (ds : List Dat) : M Dat := match ds with
  | [d, .cls c'] => M.need (decide (c' = c)) >>= fun _ => isO c d >>= fun _ => pure (.bl true)
  | _ => M.no
theorem c_isiO {c : String} (T : InsT Z c) : JC Z (IsDs Z) (IsD Z) (rIsi Z.K) (dIsiO c) := fun x d Er H p S Q hx s q => by
  unfold dIsiO at q
  split at q
  · rename_i d c'
    obtain ⟨ec, q⟩ := q.need
    have ec := of_decide_eq_true ec
    subst ec
    obtain ⟨v, w, rfl, h1, h2⟩ := isDs_two hx
    obtain ⟨⟨a, dx, fs, rfl, ha⟩, q⟩ := isO_is s h1 q
    have hw : w = .ref (Z.κ c') := by unfold IsD at h2; exact h2
    subst hw
    exact ⟨.ref a, .ref (Z.κ c'), _, _, true, rfl, .own _, .base (.ins ha T.cl T.ha T.hn T.htk T.hm), T.me, q.pure xE s _ (isD_bl.mpr rfl)⟩
  · exact (bad_no (S := S) q).elim

/-! ### texts, dicts, zip -/
def sT : Dat → Option Str
  | .str x => some x
  | _ => none
theorem sT_is {d : Dat} {x : Str} (h : sT d = some x) : d = .str x := by cases d <;> first | (cases h; rfl) | cases h
def dM0' (f : Str → Bool) (d : Dat) : M Dat := M.opt (sT d) >>= fun x => pure (.bl (f x))
theorem j_m0 {r : V → List V → Hp → VK → Prop} {f : Str → Bool} (hr : ∀ x H (Q : VK), Q (.bl (f x)) H → r (.str x) [] H Q) (h : JD Z Er O ta m) : JD Z Er O (tM0 r ta) (xUn (dM0' f) m) := fun σ H p ρ S Q hE hS q =>
  h σ H p ρ S _ hE hS ((q.bnd xE).mono fun d S1 H1 p1 e1 s1 q1 v hv => by
    obtain ⟨x, ex, q1⟩ := Post.opt q1
    rw [sT_is ex] at hv
    rw [isD_str.mp hv]
    exact ⟨⟨x, rfl⟩, hr x H1 Q (q1.pure xE s1 _ (isD_bl.mpr rfl))⟩)
/-- d[k] of a dict -/
def lkK (k : Key) : List Key → List Dat → Option Dat
  | g :: gs, d :: ds => if decide (g = k) = true then some d else lkK k gs ds
  | _, _ => none
def keyD : Dat → Option Key
  | .int i => some (.inl i)
  | .str x => some (.inr x)
  | _ => none
theorem lkK_rel {H : Hp} {p : Pl} {k : Key} : ∀ {gs : List Key} {ds : List Dat} {vs : List V} {d : Dat}, IsDs Z H p vs ds → lkK k gs ds = some d → ∃ v, valV (gs.zip vs) k = some v ∧ IsD Z H p v d
  | [], ds, _, d, _, e => by cases ds <;> cases e
  | g :: gs, [], _, d, h, e => by cases e
  | g :: gs, c :: ds, _, d, h, e => by
    obtain ⟨v, r, rfl, h1, h2⟩ := isDs_cons.mp h
    unfold lkK at e
    rw [List.zip_cons_cons]
    by_cases q : g = k
    · rw [if_pos (decide_eq_true q)] at e
      cases e
      exact ⟨v, valV_pos q, h1⟩
    · rw [if_neg (by rw [decide_eq_false q]; exact Bool.false_ne_true)] at e
      obtain ⟨w, e1, e2⟩ := lkK_rel h2 e
      refine ⟨w, ?_, e2⟩
      unfold valV at e1 ⊢
      rw [List.find?_cons, show decide (((g, v) : Key × V).1 = k) = false from decide_eq_false q]
      exact e1
theorem lkK_none {k : Key} : ∀ {gs : List Key} {ds : List Dat} {vs : List V}, gs.length = vs.length → vs.length = ds.length → lkK k gs ds = none → valV (gs.zip vs) k = none
  | [], _, _, _, _, _ => rfl
  | g :: gs, [], vs, h1, h2, _ => by rw [h2] at h1; cases h1
  | g :: gs, c :: ds, [], h1, h2, _ => by cases h1
  | g :: gs, c :: ds, v :: vs, h1, h2, e => by
    unfold lkK at e
    by_cases q : g = k
    · rw [if_pos (decide_eq_true q)] at e; cases e
    · rw [if_neg (by rw [decide_eq_false q]; exact Bool.false_ne_true)] at e
      have := lkK_none (k := k) (Nat.succ.inj h1) (Nat.succ.inj h2) e
      unfold valV at this ⊢
      rw [List.zip_cons_cons, List.find?_cons, show decide (((g, v) : Key × V).1 = k) = false from decide_eq_false q]
      exact this
theorem keyD_is {H : Hp} {p : Pl} {v : V} {d : Dat} {k : Key} (h : IsD Z H p v d) (e : keyD d = some k) : v = kV k := by
  cases d with
  | int i => cases e; exact isD_int.mp h
  | str x => cases e; exact isD_str.mp h
  | _ => cases e
def dDGet (d e : Dat) : M Dat := match d with
  | .dic ks ds => M.opt (keyD e) >>= fun k => M.opt (lkK k ks ds)
  | _ => M.no
def xDGet (a b : Env → M Dat) (ρ : Env) : M Dat := a ρ >>= fun x => b ρ >>= fun y => dDGet x y
theorem j_dget (ha : JW Z Er O ta m1) (hb : JD Z Er O tb m2) : JD Z Er O (tDGet ta tb) (xDGet m1 m2) := fun σ H p ρ S Q hE hS q =>
  ha σ H p ρ S _ hE hS ((q.bnd xE).mono fun d S1 H1 p1 e1 s1 q1 v hv => hb σ H1 p1 ρ S1 _ (hE.ext e1 hS) s1 ((q1.bnd xE).mono fun e S2 H2 p2 e2 s2 q2 w hw => by
    cases d with
    | dic ks ds =>
      obtain ⟨k, ek, q2⟩ := Post.opt q2
      obtain ⟨x, ex, kk⟩ := opt_pure xE q2 s2
      obtain ⟨a, vs, rfl, h1, hl, h2⟩ := upW.up e2 s1 hv
      obtain ⟨u, g1, g2⟩ := lkK_rel h2 ex
      exact ⟨a, u, rfl, .inl ⟨_, k, .inl h1.1, keyD_is hw ek, g1.symm⟩, kk u g2⟩
    | _ => exact (bad_no (S := S2) q2).elim))
def dDIn (neg : Bool) (e d : Dat) : M Dat := match d with
  | .dic ks ds => M.opt (keyD e) >>= fun k => pure (.bl (neg != (lkK k ks ds).isSome))
  | _ => M.no
def xDIn (neg : Bool) (a b : Env → M Dat) (ρ : Env) : M Dat := a ρ >>= fun x => b ρ >>= fun y => dDIn neg x y
theorem dget_of {H : Hp} {p : Pl} {ks : List Key} {ds : List Dat} {v w : V} {e : Dat} {k : Key} (hv : IsW Z H p v (.dic ks ds)) (hw : IsD Z H p w e) (ek : keyD e = some k) : ∃ a o, v = .ref a ∧ DGet H a w o ∧ o.isSome = (lkK k ks ds).isSome := by
  obtain ⟨a, vs, rfl, h1, hl, h2⟩ := hv
  refine ⟨a, _, rfl, .inl ⟨_, k, .inl h1.1, keyD_is hw ek, rfl⟩, ?_⟩
  cases z : lkK k ks ds with
  | none => rw [lkK_none hl h2.len z]; rfl
  | some d => obtain ⟨u, g1, _⟩ := lkK_rel h2 z; rw [g1]; rfl
theorem j_din (hb : JD Z Er O tb m2) (ha : JW Z Er O ta m1) : JD Z Er O (tDIn tb ta) (xDIn false m2 m1) := fun σ H p ρ S Q hE hS q =>
  hb σ H p ρ S _ hE hS ((q.bnd xE).mono fun e S1 H1 p1 e1 s1 q1 w hw => ha σ H1 p1 ρ S1 _ (hE.ext e1 hS) s1 ((q1.bnd xE).mono fun d S2 H2 p2 e2 s2 q2 v hv => by
    cases d with
    | dic ks ds =>
      obtain ⟨k, ek, q2⟩ := Post.opt q2
      obtain ⟨a, o, rfl, g1, g2⟩ := dget_of hv (hw.ext e2.s) ek
      refine ⟨a, o, rfl, g1, ?_⟩
      rw [g2]
      have z := q2.pure xE s2
      rw [Bool.false_bne] at z
      exact z _ (isD_bl.mpr rfl)
    | _ => exact (bad_no (S := S2) q2).elim))
theorem j_dnotin (hb : JD Z Er O tb m2) (ha : JW Z Er O ta m1) : JD Z Er O (tDNotIn tb ta) (xDIn true m2 m1) := fun σ H p ρ S Q hE hS q =>
  hb σ H p ρ S _ hE hS ((q.bnd xE).mono fun e S1 H1 p1 e1 s1 q1 w hw => ha σ H1 p1 ρ S1 _ (hE.ext e1 hS) s1 ((q1.bnd xE).mono fun d S2 H2 p2 e2 s2 q2 v hv => by
    cases d with
    | dic ks ds =>
      obtain ⟨k, ek, q2⟩ := Post.opt q2
      obtain ⟨a, o, rfl, g1, g2⟩ := dget_of hv (hw.ext e2.s) ek
      refine ⟨a, o, rfl, g1, ?_⟩
      rw [g2]
      have z := q2.pure xE s2
      rw [Bool.true_bne] at z
      exact z _ (isD_bl.mpr rfl)
    | _ => exact (bad_no (S := S2) q2).elim))
/-- zip(a, b): two lists, two tuples -/
def zipD (xs ys : List Dat) : List Dat := (xs.zip ys).map fun q => .tup [q.1, q.2]
def iZip (l : Env → M (List Dat)) (ρ : Env) : M (List Dat) := l ρ >>= fun ds => match ds with
  | [.lst xs, .lst ys] => pure (zipD xs ys)
  | [.tup xs, .tup ys] => pure (zipD xs ys)
  | _ => M.no
theorem zip_len {xs ys : List Dat} : (zipD xs ys).length = min xs.length ys.length := by unfold zipD; rw [List.length_map, List.length_zip]
theorem zip_at {xs ys : List Dat} {i : Nat} (h1 : i < xs.length) (h2 : i < ys.length) : (zipD xs ys)[i]? = some (.tup [xs[i], ys[i]]) := by
  unfold zipD
  rw [List.getElem?_map, List.getElem?_zip_eq_some (z := (xs[i], ys[i])) |>.mpr ⟨List.getElem?_eq_getElem h1, List.getElem?_eq_getElem h2⟩]
  rfl
theorem walks_zipT {X : XR} (x : XOk X) {H : Hp} {p : Pl} {a b : Addr} {vs ws : List V} {xs ys : List Dat} (ha : TupAt Z H p a vs) (h1 : IsDs Z H p vs xs) (hb : TupAt Z H p b ws) (h2 : IsDs Z H p ws ys) : Walks Z X (RZ.ItzT Z.K a b) (zipD xs ys) H p := fun H1 p1 S1 i e s => by
  have ha1 := ha.ext (x.s e)
  have hb1 := hb.ext (x.s e)
  have g1 := h1.ext (x.s e)
  have g2 := h2.ext (x.s e)
  rw [zip_len]
  refine ⟨fun lt => ?_, fun le => ⟨vs, ws, ha1.sq, hb1.sq, by rw [g1.len, g2.len]; omega⟩⟩
  have l1 : i < xs.length := by omega
  have l2 : i < ys.length := by omega
  obtain ⟨v, e1, k1⟩ := g1.get (List.getElem?_eq_getElem l1)
  obtain ⟨w, e2, k2⟩ := g2.get (List.getElem?_eq_getElem l2)
  refine ⟨⟨vs, ws, v, w, ha1.sq, hb1.sq, e1, e2⟩, fun y H' ⟨t, v', w', ev, nt, eH, f1, f2⟩ => ?_⟩
  subst ev eH
  have z1 := f1 vs ha1.sq
  have z2 := f2 ws hb1.sq
  rw [e1] at z1
  rw [e2] at z2
  cases z1
  cases z2
  exact ⟨same_new nt, _, zip_at l1 l2, new_tup s nt (isDs_cons.mpr ⟨_, _, rfl, k1, .one k2⟩)⟩
theorem walks_zipL {X : XR} (x : XOk X) {H : Hp} {p : Pl} {a b : Addr} {vs ws : List V} {xs ys : List Dat} (ha : LstAt Z H p a vs) (h1 : IsDs Z H p vs xs) (hb : LstAt Z H p b ws) (h2 : IsDs Z H p ws ys) : Walks Z X (Itz Z.K a b) (zipD xs ys) H p := fun H1 p1 S1 i e s => by
  have ha1 := ha.ext (x.s e)
  have hb1 := hb.ext (x.s e)
  have g1 := h1.ext (x.s e)
  have g2 := h2.ext (x.s e)
  rw [zip_len]
  refine ⟨fun lt => ?_, fun le => ⟨vs, ws, ha1.sq, hb1.sq, by rw [g1.len, g2.len]; omega⟩⟩
  have l1 : i < xs.length := by omega
  have l2 : i < ys.length := by omega
  obtain ⟨v, e1, k1⟩ := g1.get (List.getElem?_eq_getElem l1)
  obtain ⟨w, e2, k2⟩ := g2.get (List.getElem?_eq_getElem l2)
  refine ⟨⟨vs, ws, v, w, ha1.sq, hb1.sq, e1, e2⟩, fun y H' ⟨t, v', w', ev, nt, eH, f1, f2⟩ => ?_⟩
  subst ev eH
  have z1 := f1 vs ha1.sq
  have z2 := f2 ws hb1.sq
  rw [e1] at z1
  rw [e2] at z2
  cases z1
  cases z2
  exact ⟨same_new nt, _, zip_at l1 l2, new_tup s nt (isDs_cons.mpr ⟨_, _, rfl, k1, .one k2⟩)⟩
theorem ji_zip {X : XR} (x : XOk X) (hl : JA Z Er O tl ml) : JI Z Er O X (RZ.iZipA Z.K tl) (iZip ml) := fun σ H p ρ S R hE hS q =>
  hl σ H p ρ S _ hE hS ((q.bnd xE).mono fun ds S1 H1 p1 e1 s1 q1 vs hv => by
    split at q1
    · obtain ⟨v, w, rfl, h1, h2⟩ := isDs_two hv
      obtain ⟨a, us, rfl, h3, h4⟩ := isD_lst.mp h1
      obtain ⟨b, ws, rfl, h5, h6⟩ := isD_lst.mp h2
      exact ⟨a, b, us, ws, rfl, .inl ⟨h3.sq, h5.sq, q1.pure xE s1 _ (walks_zipL x h3 h4 h5 h6)⟩⟩
    · obtain ⟨v, w, rfl, h1, h2⟩ := isDs_two hv
      obtain ⟨a, us, rfl, h3, h4⟩ := isD_tup.mp h1
      obtain ⟨b, ws, rfl, h5, h6⟩ := isD_tup.mp h2
      exact ⟨a, b, us, ws, rfl, .inr ⟨h3.sq, h5.sq, q1.pure xE s1 _ (walks_zipT x h3 h4 h5 h6)⟩⟩
    · exact (bad_no (S := S1) q1).elim)
/-- a dict display -/
def xPairs : List ((Env → M Dat) × (Env → M Dat)) → Env → M (List (Dat × Dat))
  | [], _ => pure []
  | (a, b) :: r, ρ => a ρ >>= fun x => b ρ >>= fun y => xPairs r ρ >>= fun l => pure ((x, y) :: l)
def keysD : List (Dat × Dat) → Option (List Key)
  | [] => some []
  | (a, _) :: r => (keyD a).bind fun k => (keysD r).map (k :: ·)
def noDup : List Key → Bool
  | [] => true
  | k :: r => !r.any (fun g => decide (g = k)) && noDup r
def xDisp (l : List ((Env → M Dat) × (Env → M Dat))) (ρ : Env) : M Dat := xPairs l ρ >>= fun ps => M.opt (keysD ps) >>= fun ks => M.need (noDup ks && decide (ks.length ≤ 15)) >>= fun _ => pure (.dic ks (ps.map (·.2)))
end
end Zd

namespace Zd
open PySem PySem.Spec PyProof.Rows L2
/-! ### rules that the layer lacks -/
section
variable {X : Cx} {a b c d e o : Expr} {pos apos cpos : Pos} {ta tb tc td ty : TE}
def tChain3 (r r' r'' : L2.R2) (ta tb tc td : TE) : TE := fun σ H Q => ta σ H fun x H1 => tb σ H1 fun y H2 => r x y H2 fun z H3 => ∃ k, z = .bl k ∧
  (if k = true then tc σ H3 fun x2 H4 => r' y x2 H4 fun z2 H5 => ∃ k2, z2 = .bl k2 ∧ (if k2 = true then td σ H5 fun x3 H6 => r'' x2 x3 H6 Q else Q (.bl false) H5) else Q (.bl false) H3)
theorem pe_chain3 {p1 p2 p3 : CmpOp} {r r' r'' : L2.R2} (o1 : OpR X (compareOp p1) r) (o2 : OpR X (compareOp p2) r') (o3 : OpR X (compareOp p3) r'') (ea : PE X a ta) (eb : PE X b tb) (ec : PE X c tc) (ed : PE X d td)
    (nm : lastMarks [p1, p2, p3] [b, c, d] = false := by with_unfolding_all rfl) : PE X (.Compare a [p1, p2, p3] [b, c, d] pos) (tChain3 r r' r'' ta tb tc td) := by
  constructor
  intro pn s σ H Q I g
  refine Compare_chain (thn (ea.run pn s σ H _ I g) fun va s1 ⟨x, H1, I1, ra, g1⟩ => ?_) nm
  refine chain_link (thn (eb.run pn s1 σ H1 _ I1 g1) fun vb s2 ⟨y, H2, I2, rb, g2⟩ => thn (o1 pn s2 σ H2 x y va vb _ I2 ra rb g2) fun vz s3 ⟨z, H3, I3, rz, k, ez, g3⟩ => ?_)
  subst ez
  cases rz
  refine wpAny_truthy_bool ?_
  cases k with
  | false => exact ite_ff ⟨.bl false, H3, I3, rfl, g3⟩
  | true =>
    refine ite_tt (chain_link (thn (ec.run pn s3 σ H3 _ I3 g3) fun vc s4 ⟨x2, H4, I4, rc, g4⟩ => thn (o2 pn s4 σ H4 y x2 vb vc _ I4 rb rc g4) fun vz2 s5 ⟨z2, H5, I5, rz2, k2, ez2, g5⟩ => ?_))
    subst ez2
    cases rz2
    refine wpAny_truthy_bool ?_
    cases k2 with
    | false => exact ite_ff ⟨.bl false, H5, I5, rfl, g5⟩
    | true => exact ite_tt (chain_last (thn (ed.run pn s5 σ H5 _ I5 g5) fun vd s6 ⟨x3, H6, I6, rd, g6⟩ => o3 pn s6 σ H6 x2 x3 vc vd Q I6 rc rd g6))
/-- d.get(k), d a dict of the module with text keys -/
structure KTab (K : PySem.W.Frag) (w : World) (a : Addr) : Prop where
  ex : ∃ (es : Array DictEntry) (n : Nat), KDict K w a es n
def tKGet (K : PySem.W.Frag) (w : World) (a : Addr) (td ty : TE) : TE := fun σ H Q => td σ H fun x H1 => x = .ref a ∧ ty σ H1 fun y H2 => ∃ (z : Str) (r : Option Value), y = .str z ∧ PySem.W.nsIn K a z = some r ∧ (∀ u, r = some u → ∃ v, RelV v u ∧ Q v H2) ∧ (r = none → Q .non H2)
theorem pe_kget {D : Addr} (kt : KTab X.K X.w D) (ho : PE X o td) (he : PE X e ty) (m : M1 X o "get" apos e cpos) : PE X (.Call (.Attribute o "get" apos) [e] [] cpos) (tKGet X.K X.w D td ty) := by
  obtain ⟨es, n, kd⟩ := kt.ex
  constructor
  intro pn s σ H Q I g
  refine wpAny_Call_method m.base m.few m.line PySem.F.plainAttrs_dict PySem.F.slot_dict_get PySem.F.type_dict_get (thn (ho.run pn s σ H _ I g) fun vo s1 ⟨x, H1, I1, ro, ex, g1⟩ => ?_)
  subst ex
  cases (show vo = Value.ref D from ro)
  have mp := PySem.W.mapOf_K (prog := X.prog) (w := X.w) I1.kIn kd.at_ kd.lit
  refine ⟨mp.typeIs, fun b q => ?_, ?_⟩
  · cases q
    exact ⟨_, I1.kIn _ _ kd.at_, rfl⟩
  rw [m.trees]
  refine PySem.wpAny_dict_get1 (knd := PySem.strKind X.prog X.w) kd.low (thn (he.run pn s1 σ H1 _ I1 g1) fun vk s2 ⟨y, H2, I2, ry, z, r, ey, en, q1, q2⟩ => ?_)
  subst ey
  obtain ⟨t, rfl⟩ := (show ∃ t, vk = Value.str z t from ry)
  refine ⟨z, _, PySem.strKind_is X.prog X.w z t, PySem.W.mapOf_K (prog := X.prog) (w := X.w) I2.kIn kd.at_ kd.lit, ?_⟩
  show EP X pn σ Q ((findBy Value.isStrOf es z).getD .none) _
  rw [PySem.W.find_K kd.at_ en]
  cases r with
  | none => exact ⟨.non, H2, I2.tok _, rfl, q2 rfl⟩
  | some u =>
    obtain ⟨v, rv, qv⟩ := q1 u rfl
    exact ⟨v, H2, I2.tok _, rv, qv⟩
/-- repr of data, of the empty dict too -/
def rRepr0 (K : PySem.W.Frag) : List V → Hp → VK → Prop := fun xs H Q => Zg.rReprD K xs H Q ∨ ∃ p, xs = [.ref p] ∧ H p = some (.dK []) ∧ Q (.str "{}") H
end
end Zd

namespace Zd
open PySem PySem.Spec PyProof.Rows L2

/-! ### zip, enumerate of lists, tuples, texts -/
inductive Src where
  | li (a : Addr) | tu (a : Addr) | tx (x : Str)
def Src.v : Src → V
  | .li a => .ref a
  | .tu a => .ref a
  | .tx x => .str x
def Src.has (K : PySem.W.Frag) (H : Hp) (i : Nat) (v : V) : Src → Prop
  | .li a => ∃ xs, SqL K H a xs ∧ xs[i]? = some v
  | .tu a => ∃ xs, SqT K H a xs ∧ xs[i]? = some v
  | .tx x => ∃ c, x.cps[i]? = some c ∧ v = .str ⟨#[c]⟩
def Src.len (K : PySem.W.Frag) (H : Hp) (n : Nat) : Src → Prop
  | .li a => ∃ xs, SqL K H a xs ∧ xs.length = n
  | .tu a => ∃ xs, SqT K H a xs ∧ xs.length = n
  | .tx x => x.cps.size = n
def Src.fp (it : Addr) : Src → List Addr
  | .li a => [it, a]
  | .tu a => [it, a]
  | .tx _ => [it]
def Src.off (c : Addr) : Src → Prop
  | .li a => a ≠ c
  | .tu a => a ≠ c
  | .tx _ => True
/-- its iterator at the place i -/
def Src.itr (it : Addr) (i : Nat) (h : Heap) : Src → Prop
  | .li a => h.IsListIter it a i
  | .tu a => h.IsTupleIter it a i
  | .tx x => ∃ t, h.IsStrIter it (strIterType x) x t i
theorem Src.itr_keep {it : Addr} {i : Nat} {h h' : Heap} : ∀ {s : Src}, s.itr it i h → (∀ o, h.get? it = some o → h'.get? it = some o) → s.itr it i h'
  | .li a, q, k => Heap.IsListIter.at q k
  | .tu a, q, k => Heap.IsTupleIter.at q k
  | .tx x, ⟨t, o, e, c, d⟩, k => ⟨t, o, k o e, c, d⟩
theorem Src.itr_obj {it : Addr} {i : Nat} {h : Heap} : ∀ {s : Src}, s.itr it i h → ∃ o, h.get? it = some o ∧ ∀ v, o.data ≠ .cell v
  | .li a, ⟨o, e, c, d⟩ => ⟨o, e, fun v q => by rw [d] at q; cases q⟩
  | .tu a, ⟨o, e, c, d⟩ => ⟨o, e, fun v q => by rw [d] at q; cases q⟩
  | .tx x, ⟨t, o, e, c, d⟩ => ⟨o, e, fun v q => by rw [d] at q; cases q⟩
theorem Src.mem {it : Addr} : ∀ {s : Src}, it ∈ s.fp it
  | .li a => List.mem_cons_self
  | .tu a => List.mem_cons_self
  | .tx x => List.mem_cons_self
theorem Src.nofp {it c : Addr} : ∀ {s : Src}, c ≠ it → s.off c → c ∉ s.fp it
  | .li a, h, k, m => by
    rcases List.mem_cons.mp m with e | e
    · exact h e
    · exact k (List.mem_singleton.mp e).symm
  | .tu a, h, k, m => by
    rcases List.mem_cons.mp m with e | e
    · exact h e
    · exact k (List.mem_singleton.mp e).symm
  | .tx x, h, k, m => h (List.mem_singleton.mp m)
/-- what it draws, as things stand -/
structure Src.Dr (P : Program) (w : World) (A : Around) (K : PySem.W.Frag) (H : Hp) (s : Src) (it : Addr) (i : Nat) (h : Heap) (n : Nat) : Prop where
  dr : ∃ (Pv : Nat → Value → Prop) (St : Nat → Heap → Prop), Draws P w A it (s.fp it) n Pv St ∧ St i h ∧ (∀ u, Pv i u → ∃ x, RelV x u ∧ s.has K H i x) ∧ ∀ j h', St j h' → s.itr it j h'
theorem Src.dr {X : Cx} {pins : List (Addr × Obj)} {σ : L2.St} {H : Hp} {sh : Shared} (I : Inv X pins σ H sh) (hc : X.calm = true) {it : Addr} {i n : Nat} : ∀ {s : Src}, s.len X.K H n → s.itr it i sh.heap → s.off it → Src.Dr X.prog X.w X.A.in1 X.K H s it i sh.heap n
  | .li a, ⟨xs, hq, hl⟩, st, ho => by
    obtain ⟨its, rv, p, hz⟩ := I.list hq
    have e : its.toArray.size = n := by rw [List.size_toArray, ← rv.length, hl]
    subst e
    refine ⟨_, _, Draws.list (A := X.A.in1) (I.ok.hd hc) it a ho its.toArray, ⟨st, p.isList⟩, fun u hu => ?_, fun j h' st' => st'.1⟩
    have hu : its[i]? = some u := by simpa using hu
    have lt : i < xs.length := by rw [rv.length]; exact (List.getElem?_eq_some_iff.mp hu).1
    obtain ⟨u', h1, h2⟩ := rv.get (List.getElem?_eq_getElem lt)
    rw [hu] at h1
    cases h1
    exact ⟨_, h2, xs, hq, List.getElem?_eq_getElem lt⟩
  | .tu a, ⟨xs, hq, hl⟩, st, ho => by
    obtain ⟨its, rv, p, hz⟩ := I.tuple hq
    have e : its.toArray.size = n := by rw [List.size_toArray, ← rv.length, hl]
    subst e
    refine ⟨_, _, Draws.tuple (A := X.A.in1) (I.ok.hd hc) it a ho its.toArray, ⟨st, p⟩, fun u hu => ?_, fun j h' st' => st'.1⟩
    have hu : its[i]? = some u := by simpa using hu
    have lt : i < xs.length := by rw [rv.length]; exact (List.getElem?_eq_some_iff.mp hu).1
    obtain ⟨u', h1, h2⟩ := rv.get (List.getElem?_eq_getElem lt)
    rw [hu] at h1
    cases h1
    exact ⟨_, h2, xs, hq, List.getElem?_eq_getElem lt⟩
  | .tx x, hl, ⟨t, st⟩, ho => by
    have e : x.cps.size = n := hl
    subst e
    refine ⟨_, _, Draws.text (A := X.A.in1) (I.ok.hd hc) it x t, st, fun u hu => ?_, fun j h' st' => ⟨t, st'⟩⟩
    obtain ⟨c, v, h1, h2⟩ := hu
    exact ⟨.str ⟨#[c]⟩, ⟨v, h2⟩, c, h1, rfl⟩
theorem Src.inj {X : Cx} {pins : List (Addr × Obj)} {σ : L2.St} {H : Hp} {sh : Shared} (I : Inv X pins σ H sh) {i : Nat} {x y : V} : ∀ {s : Src}, s.has X.K H i x → s.has X.K H i y → x = y
  | .li a, ⟨xs, h1, h2⟩, ⟨ys, k1, k2⟩ => by
    rw [I.list_inj h1 k1, k2] at h2
    exact (Option.some.inj h2).symm
  | .tu a, ⟨xs, h1, h2⟩, ⟨ys, k1, k2⟩ => by
    rw [I.tuple_inj h1 k1, k2] at h2
    exact (Option.some.inj h2).symm
  | .tx x, ⟨c, h1, h2⟩, ⟨d, k1, k2⟩ => by
    rw [h1] at k1
    cases k1
    rw [h2, k2]
def ItzG (K : PySem.W.Frag) (s1 s2 : Src) : It :=
  ⟨fun i H => ∃ n1 n2, s1.len K H n1 ∧ s2.len K H n2 ∧ i < n1 ∧ i < n2,
    fun i H v H' => ∃ T x y, v = .ref T ∧ H T = none ∧ H' = upd H T (.tup [x, y]) ∧ (∀ z, s1.has K H i z → x = z) ∧ ∀ z, s2.has K H i z → y = z,
    fun i H => ∃ n1 n2, s1.len K H n1 ∧ s2.len K H n2 ∧ i ≤ n1 ∧ i ≤ n2 ∧ (i = n1 ∨ i = n2)⟩
structure SepG (s1 s2 : Src) (z TI TO i1 i2 : Addr) : Prop where
  TIz : TI ≠ z
  TOz : TO ≠ z
  i1z : i1 ≠ z
  i2z : i2 ≠ z
  TITO : TI ≠ TO
  TIi1 : TI ≠ i1
  TIi2 : TI ≠ i2
  TOi1 : TO ≠ i1
  TOi2 : TO ≠ i2
  i12 : i1 ≠ i2
  a1 : ∀ c, c = z ∨ c = TO ∨ c = i1 ∨ c = i2 → s1.off c
  a2 : ∀ c, c = z ∨ c = TO ∨ c = i1 ∨ c = i2 → s2.off c
theorem SepG.sep {s1 s2 : Src} {z TI TO i1 i2 : Addr} (D : SepG s1 s2 z TI TO i1 i2) : ZipSep2 z TI TO i1 i2 (s1.fp i1) (s2.fp i2) :=
  { TIz := D.TIz, TOz := D.TOz, TITO := D.TITO, TIi1 := D.TIi1, mem1 := Src.mem, zf1 := Src.nofp (Ne.symm D.i1z) (D.a1 _ (.inl rfl)), Tf1 := Src.nofp D.TOi1 (D.a1 _ (.inr (.inl rfl))),
    TIi2 := D.TIi2, mem2 := Src.mem, zf2 := Src.nofp (Ne.symm D.i2z) (D.a2 _ (.inl rfl)), Tf2 := Src.nofp D.TOi2 (D.a2 _ (.inr (.inl rfl))),
    sep1_2 := Src.nofp D.i12 (D.a2 _ (.inr (.inr (.inl rfl)))), sep2_1 := Src.nofp (Ne.symm D.i12) (D.a1 _ (.inr (.inr (.inr rfl)))) }
theorem turn_zipG {P : Program} {w : World} {K : PySem.W.Frag} {elts : List Expr} {kk : Nat} {tpos : Pos} {s1 s2 : Src} {z TI TO i1 i2 : Addr} (D : SepG s1 s2 z TI TO i1 i2) :
    Turn P w K (.Tuple elts kk tpos) (ItzG K s1 s2) [z, TI, TO, i1, i2] z (fun i h => IsZip h z TI TO .none ∧ IsTupOf2 h TI (.ref i1) (.ref i2) ∧ (∃ x y, IsTupOf2 h TO x y) ∧ s1.itr i1 i h ∧ s2.itr i2 i h) where
  mem := by simp
  obj := fun i h ⟨hz, hTI, ⟨x, y, hTO⟩, h1, h2⟩ c hc => by
    have five : c = z ∨ c = TI ∨ c = TO ∨ c = i1 ∨ c = i2 := by simpa using hc
    rcases five with rfl | rfl | rfl | rfl | rfl
    · exact ⟨_, hz, nofun⟩
    · exact ⟨_, hTI, nofun⟩
    · exact ⟨_, hTO, nofun⟩
    · exact Src.itr_obj h1
    · exact Src.itr_obj h2
  keep := fun i h h' ⟨hz, hTI, ⟨x, y, hTO⟩, h1, h2⟩ k => ⟨k z (by simp) _ hz, k TI (by simp) _ hTI, ⟨x, y, k TO (by simp) _ hTO⟩, Src.itr_keep h1 fun o q => k i1 (by simp) o q, Src.itr_keep h2 fun o q => k i2 (by simp) o q⟩
  item := by
    rintro X rfl rfl rfl hc i pins s σ H E I hf ⟨hz, hTI, ⟨a1, a2, hTO⟩, h1, h2⟩ ⟨n1, n2, l1, l2, lt1, lt2⟩
    obtain ⟨P1, St1, D1, t1, g1, f1⟩ := (Src.dr I hc l1 h1 (D.a1 _ (.inr (.inr (.inl rfl))))).dr
    obtain ⟨P2, St2, D2, t2, g2, f2⟩ := (Src.dr I hc l2 h2 (D.a2 _ (.inr (.inr (.inr rfl))))).dr
    refine wpAny_pyNext_zipD2_item D.sep D1 D2 hz hTI hTO t1 t2 lt1 lt2 fun u1 u2 h' tk p1 p2 z' TO' q1 q2 hT hsz hk => ⟨_, rfl, wpAny_letOwnedTupleGo_zip (s := { s with heap := h', toks := tk }) z' fun h'' z'' sb => ?_⟩
    obtain ⟨x, rx, hx⟩ := g1 u1 p1
    obtain ⟨y, ry, hy⟩ := g2 u2 p2
    have ne : ∀ {c o}, s.heap.get? c = some o → s.heap.objs.size ≠ c := fun e => Nat.ne_of_gt (Heap.lt_size e)
    have sb' : ∀ c, c ≠ z → h''.get? c = h'.get? c := fun c n => sb.2 c n
    have hT2 : h''.get? s.heap.objs.size = some { cls := .type "tuple", data := .seq #[u1, u2] } := (sb' _ (ne hz)).trans hT
    have new : ObjOk X.prog X.w (upd H s.heap.objs.size (.tup [x, y])) h'' s.heap.objs.size (.tup [x, y]) := ⟨show 2 ≤ sizeLine by decide, [u1, u2], .cons rx (.cons ry .nil), ⟨_, hT2, rfl, _, rfl⟩⟩
    have lt : ∀ c ∈ [z, TI, TO, i1, i2], c ≠ s.heap.objs.size := fun c hc' => by
      have five : c = z ∨ c = TI ∨ c = TO ∨ c = i1 ∨ c = i2 := by simpa using hc'
      rcases five with rfl | rfl | rfl | rfl | rfl
      · exact (ne hz).symm
      · exact (ne hTI).symm
      · exact (ne hTO).symm
      · obtain ⟨o, e, _⟩ := Src.itr_obj h1; exact (ne e).symm
      · obtain ⟨o, e, _⟩ := Src.itr_obj h2; exact (ne e).symm
    refine ⟨.ref s.heap.objs.size, _, I.turnedNew (t' := tk) (ch := [z, TI, TO, i1, i2]) (fun c o hb q => (sb' c fun e => hb (by simp [e])).trans (hk c o (fun e => hb (by simp [e])) (fun e => hb (by simp [e])) (fun e => hb (by simp [e])) (fun e => hb (by simp [e])) q)) hf (Nat.le_refl _) new, rfl,
      ⟨_, x, y, rfl, I.hok.fresh (Nat.le_refl _), rfl, fun _ q => Src.inj I hx q, fun _ q => Src.inj I hy q⟩, ⟨z'', (sb' _ D.TIz).trans (hk _ _ D.TIz D.TITO D.TIi1 D.TIi2 hTI), ⟨u1, u2, (sb' _ D.TOz).trans TO'⟩, Src.itr_keep (f1 _ _ q1) fun o q => (sb' _ D.i1z).trans q, Src.itr_keep (f2 _ _ q2) fun o q => (sb' _ D.i2z).trans q⟩, fun c hc' => ?_⟩
    rw [upd_ne (lt c hc')]
    exact (hf c hc').1
  done := by
    rintro X rfl rfl rfl hc i pins s σ H E I hf ⟨hz, hTI, ⟨a1, a2, hTO⟩, h1, h2⟩ ⟨n1, n2, l1, l2, lt1, lt2, en⟩
    obtain ⟨P1, St1, D1, t1, g1, f1⟩ := (Src.dr I hc l1 h1 (D.a1 _ (.inr (.inr (.inl rfl))))).dr
    obtain ⟨P2, St2, D2, t2, g2, f2⟩ := (Src.dr I hc l2 h2 (D.a2 _ (.inr (.inr (.inr rfl))))).dr
    exact wpAny_pyNext_zipD2_end D.sep D1 D2 hz hTI hTO t1 t2 lt1 lt2 en fun h' tk hk => ⟨rfl, I.turnedL (t' := tk) (ch := [z, TI, TO, i1, i2]) (fun c o hb q =>
      hk c o (fun e => hb (by simp [e])) (fun e => hb (by simp [e])) (fun e => hb (by simp [e])) (fun e => hb (by simp [e])) q) hf⟩
  self := fun A i s Q E st h => wpAny_pyIter_zip st.1 h
/-- it begins -/
theorem Src.begins {X : Cx} {pins : List (Addr × Obj)} {σ : L2.St} {H : Hp} {sh : Shared} (I : Inv X pins σ H sh) {u : Value} {n : Nat} : ∀ {s : Src}, s.len X.K H n → RelV s.v u →
    ∃ (o : Obj) (Hb : Heap → Prop), Begins u o Hb ∧ Hb sh.heap ∧ (∀ h' it, h'.get? it = some o → s.itr it 0 h') ∧ ∀ c, sh.heap.objs.size ≤ c → s.off c
  | .li a, ⟨xs, hq, _⟩, r => by
    obtain ⟨its, rv, p, hz⟩ := I.list hq
    cases (show u = Value.ref a from r)
    refine ⟨_, _, begins_list a its.toArray, p.isList, fun h' it e => ⟨_, e, rfl, rfl⟩, fun c le e => ?_⟩
    obtain ⟨o, h1, _⟩ := p.isList
    rw [← e] at le
    exact absurd (Heap.lt_size h1) (Nat.not_lt.mpr le)
  | .tu a, ⟨xs, hq, _⟩, r => by
    obtain ⟨its, rv, p, hz⟩ := I.tuple hq
    cases (show u = Value.ref a from r)
    refine ⟨_, _, begins_tuple a its.toArray, p, fun h' it e => ⟨_, e, rfl, rfl⟩, fun c le e => ?_⟩
    obtain ⟨o, h1, _⟩ := id p
    rw [← e] at le
    exact absurd (Heap.lt_size h1) (Nat.not_lt.mpr le)
  | .tx x, _, r => by
    obtain ⟨t, rfl⟩ := (show ∃ t, u = Value.str x t from r)
    exact ⟨_, _, begins_text x t, trivial, fun h' it e => ⟨t, _, e, rfl, rfl⟩, fun _ _ => trivial⟩
def iZipG (K : PySem.W.Frag) (ta : TA) : TI := fun σ H R => ta σ H fun vs H1 => ∃ (s1 s2 : Src) (n1 n2 : Nat), vs = [s1.v, s2.v] ∧ s1.len K H1 n1 ∧ s2.len K H1 n2 ∧ R (ItzG K s1 s2) H1
theorem pi_zipG {X : Cx} {e e2 : Expr} {ta : TA} {p pos tpos : Pos} {elts : List Expr} {kk : Nat} (hg : Gl X "zip") (hm : X.mg "zip" = none) (ha : PA X [e, e2] ta)
    (hs : starEach [e, e2] X.env = (false, eval e X.env) :: starEach [e2] X.env := by rfl) (hpl : (backTo pos (starEach [e2] X.env)).any (·.1) = false := by rfl) :
    PI X (.Tuple elts kk tpos) (.Call (.Name "zip" p) [e, e2] [] pos) (iZipG X.K ta) := by
  refine ⟨fun pins s σ H R I h => Call_ (ld_blt I hg hm PyProof.Rows.boot_zip (PyProof.Rows.callWith_type1 (thn (ha.run pos pins s σ H _ I h) fun us s1 ⟨vs, H1, I1, r1, s1', s2', n1, n2, ex, l1, l2, q⟩ => ?_) hs hpl))⟩
  subst ex
  cases r1 with
  | cons ra rr =>
    cases rr with
    | cons rb rr =>
      cases rr
      obtain ⟨o1, Hb1, B1, hb1, f1, g1⟩ := Src.begins I1 l1 ra
      obtain ⟨o2, Hb2, B2, hb2, f2, g2⟩ := Src.begins I1 l2 rb
      have le : ∀ k, s1.heap.objs.size ≤ s1.heap.objs.size + k := fun k => Nat.le_add_right _ k
      refine zip_begins2 B1 B2 hb1 hb2 fun h' hz hTI hTO h1 h2 hsz hk => wpAny_pyIter_zip hz ?_
      have D : SepG s1' s2' (s1.heap.objs.size + 4) (s1.heap.objs.size + 2) (s1.heap.objs.size + 3) s1.heap.objs.size (s1.heap.objs.size + 1) :=
        ⟨show (s1.heap.objs.size + 2 : Nat) ≠ s1.heap.objs.size + 4 by omega, show (s1.heap.objs.size + 3 : Nat) ≠ s1.heap.objs.size + 4 by omega, show (s1.heap.objs.size : Nat) ≠ s1.heap.objs.size + 4 by omega, show (s1.heap.objs.size + 1 : Nat) ≠ s1.heap.objs.size + 4 by omega,
          show (s1.heap.objs.size + 2 : Nat) ≠ s1.heap.objs.size + 3 by omega, show (s1.heap.objs.size + 2 : Nat) ≠ s1.heap.objs.size by omega, show (s1.heap.objs.size + 2 : Nat) ≠ s1.heap.objs.size + 1 by omega, show (s1.heap.objs.size + 3 : Nat) ≠ s1.heap.objs.size by omega, show (s1.heap.objs.size + 3 : Nat) ≠ s1.heap.objs.size + 1 by omega, show (s1.heap.objs.size : Nat) ≠ s1.heap.objs.size + 1 by omega,
          fun c hc => g1 c (by rcases hc with rfl | rfl | rfl | rfl <;> first | exact le _ | exact Nat.le_refl _), fun c hc => g2 c (by rcases hc with rfl | rfl | rfl | rfl <;> first | exact le _ | exact Nat.le_refl _)⟩
      refine ⟨_, [s1.heap.objs.size + 4, s1.heap.objs.size + 2, s1.heap.objs.size + 3, s1.heap.objs.size, s1.heap.objs.size + 1], _, _, H1, rfl, I1.kept (t' := s1.toks) hk, turn_zipG D, ⟨hz, hTI, ⟨_, _, hTO⟩, f1 _ _ h1, f2 _ _ h2⟩, fun c hc => ?_, q⟩
      have lec : s1.heap.objs.size ≤ c := by
        have five : c = s1.heap.objs.size + 4 ∨ c = s1.heap.objs.size + 2 ∨ c = s1.heap.objs.size + 3 ∨ c = s1.heap.objs.size ∨ c = s1.heap.objs.size + 1 := by simpa using hc
        rcases five with rfl | rfl | rfl | rfl | rfl <;> first | exact le _ | exact Nat.le_refl _
      exact I1.fpOk lec (I1.hok.fresh lec)
end Zd

namespace Zd
open PySem PySem.Spec PyProof.Rows L2

/-- enumerate(v) -/
theorem meets_enum1 {v : Value} {o : Obj} {H : Heap → Prop} (B : Begins v o H) :
    Meets (Builtin.«enumerate.__new__» ⟨[.type "enumerate", v], []⟩) (fun _ R s => H s.heap ∧
      R (.ok (.ret (.ref (s.heap.objs.size + 1)))) { s with heap := (s.heap.push o).push { cls := .type "enumerate", data := .fields #[.none, .bool false, .ref s.heap.objs.size, rawInt 0, .none, .none] } }) :=
  .of_wp fun prog w A R s ⟨h1, h⟩ => by
    obtain ⟨hp, g, d, tk, os⟩ := s
    change R (.ok (.ret (.ref (hp.objs.size + 1)))) _ at h
    have hsub := sub_enumerate
    have hz : (hp.push o).objs.size = hp.objs.size + 1 := Heap.size_push ..
    rw [← hz] at h
    have begin_ : ∀ {A' : Around} {E : Value → Shared → Prop} {Q : Value → Shared → Prop}, Q (.ref hp.objs.size) ⟨hp.push o, g, d, tk, os⟩ → wpAny (model prog w) A' (pyIter v) Q E ⟨hp, g, d, tk, os⟩ :=
      fun q => B.iter prog w _ _ ⟨hp, g, d, tk, os⟩ _ h1 q
    wp_walk using begin_
    refine wpAny_stack_any fun st => wpAny_pure ?_
    split
    · rename_i c _ _ _ _ _
      cases (c == Value.type "enumerate") <;> (wp_walk using begin_) <;> exact ⟨_, rfl, h⟩
    · wp_walk using begin_
      exact ⟨_, rfl, h⟩
def IteG (K : PySem.W.Frag) (s1 : Src) : It :=
  ⟨fun i H => ∃ n, s1.len K H n ∧ i < n, fun i H v H' => ∃ T x, v = .ref T ∧ H T = none ∧ H' = upd H T (.tup [.int (i : Nat), x]) ∧ ∀ z, s1.has K H i z → x = z, fun i H => s1.len K H i⟩
theorem turn_enumG {P : Program} {w : World} {K : PySem.W.Frag} {elts : List Expr} {kk : Nat} {tpos : Pos} {s1 : Src} {e it : Addr} (ne : e ≠ it) (o1 : s1.off e) (o2 : s1.off it) :
    Turn P w K (.Tuple elts kk tpos) (IteG K s1) [e, it] e (fun i h => (∃ old, IsEnum h e it ((i : Nat) : Int) old) ∧ s1.itr it i h) where
  mem := by simp
  obj := fun i h ⟨⟨old, he⟩, h1⟩ c hc => by
    have two : c = e ∨ c = it := by simpa using hc
    rcases two with rfl | rfl
    · exact ⟨_, he, nofun⟩
    · exact Src.itr_obj h1
  keep := fun i h h' ⟨⟨old, he⟩, h1⟩ k => ⟨⟨old, k e (by simp) _ he⟩, Src.itr_keep h1 fun o q => k it (by simp) o q⟩
  item := by
    rintro X rfl rfl rfl hc i pins s σ H E I hf ⟨⟨old, he⟩, h1⟩ ⟨n, l1, lt1⟩
    obtain ⟨P1, St1, D1, t1, g1, f1⟩ := (Src.dr I hc l1 h1 o2).dr
    refine wpAny_pyNext_enum_itemD D1 he t1 lt1 ne (Src.nofp ne o1) fun u h' tk p1 eo q1 hT hsz hk => ⟨_, rfl, wpAny_letOwnedTupleGo_enum (s := { s with heap := h', toks := tk + 1 }) eo fun h'' e'' sb => ?_⟩
    obtain ⟨x, rx, hx⟩ := g1 u p1
    have nel : s.heap.objs.size ≠ e := Nat.ne_of_gt (Heap.lt_size he)
    have nit : s.heap.objs.size ≠ it := by obtain ⟨o, q, _⟩ := Src.itr_obj h1; exact Nat.ne_of_gt (Heap.lt_size q)
    have hT2 : h''.get? s.heap.objs.size = some { cls := .type "tuple", data := .seq #[.int i tk, u] } := (sb.2 _ nel).trans hT
    have new : ObjOk X.prog X.w (upd H s.heap.objs.size (.tup [.int (i : Nat), x])) h'' s.heap.objs.size (.tup [.int (i : Nat), x]) := ⟨show 2 ≤ sizeLine by decide, [.int i tk, u], .cons ⟨_, rfl⟩ (.cons rx .nil), ⟨_, hT2, rfl, _, rfl⟩⟩
    have k2 : ∀ b o, b ∉ [e, it] → s.heap.get? b = some o → h''.get? b = some o := fun b o hb q => (sb.2 b fun z => hb (by simp [z])).trans (hk b o (fun z => hb (by simp [z])) (fun z => hb (by simp [z])) q)
    refine ⟨.ref s.heap.objs.size, _, I.turnedNew (t' := tk + 1) (ch := [e, it]) k2 hf (Nat.le_refl _) new, rfl, ⟨_, x, rfl, I.hok.fresh (Nat.le_refl _), rfl, fun _ q => Src.inj I hx q⟩, ⟨⟨u, ?_⟩, Src.itr_keep (f1 _ _ q1) fun o q => (sb.2 it (Ne.symm ne)).trans q⟩, fun c hc' => ?_⟩
    · have cast : ((i + 1 : Nat) : Int) = (i : Int) + 1 := by omega
      rw [cast]
      exact e''
    · have two : c = e ∨ c = it := by simpa using hc'
      have nc : c ≠ s.heap.objs.size := by
        rcases two with rfl | rfl
        · exact nel.symm
        · exact nit.symm
      rw [upd_ne nc]
      exact (hf c hc').1
  done := by
    rintro X rfl rfl rfl hc i pins s σ H E I hf ⟨⟨old, he⟩, h1⟩ l1
    obtain ⟨P1, St1, D1, t1, g1, f1⟩ := (Src.dr I hc l1 h1 o2).dr
    obtain ⟨f0, f1', f2, f3, f4, f5⟩ := hf it (by simp)
    exact wpAny_pyNext_enum_endD D1 he t1 fun h' eb => ⟨rfl, I.turned (t' := s.toks) (fun b o hb q => eb b o hb q) f0 f1' f3 f4 f5⟩
  self := fun A i s Q E st h => let ⟨⟨_, he⟩, _⟩ := st; wpAny_pyIter_enum he h
def iEnumG (K : PySem.W.Frag) (ta : TA) : TI := fun σ H R => ta σ H fun vs H1 => ∃ (s1 : Src) (n : Nat), vs = [s1.v] ∧ s1.len K H1 n ∧ R (IteG K s1) H1
theorem pi_enumG {X : Cx} {e : Expr} {ta : TA} {p pos tpos : Pos} {elts : List Expr} {kk : Nat} (hg : Gl X "enumerate") (hm : X.mg "enumerate" = none) (ha : PA X [e] ta) (hs : starEach [e] X.env = [(false, eval e X.env)] := by rfl) :
    PI X (.Tuple elts kk tpos) (.Call (.Name "enumerate" p) [e] [] pos) (iEnumG X.K ta) := by
  refine ⟨fun pins s σ H R I h => Call_ (ld_blt I hg hm boot_enumerate (PyProof.Rows.callWith_type1 (thn (ha.run pos pins s σ H _ I h) fun us s1 ⟨vs, H1, I1, r1, s1', n, ex, l1, q⟩ => ?_) hs rfl))⟩
  subst ex
  cases r1 with
  | cons ra rr =>
    cases rr
    obtain ⟨o1, Hb1, B1, hb1, f1, g1⟩ := Src.begins I1 l1 ra
    refine callType_new F.called_enumerate (by decide) (F.typeCall_enumerate_1 _) (F.newCall_enumerate_1 _) (fun obj => F.args_object_init_2 obj _) F.entry_enumerate_new (meets_enum1 B1) ⟨hb1, ?_⟩
    have hz : (s1.heap.push o1).objs.size = s1.heap.objs.size + 1 := Heap.size_push ..
    have he : IsEnum ((s1.heap.push o1).push { cls := .type "enumerate", data := .fields #[.none, .bool false, .ref s1.heap.objs.size, rawInt 0, .none, .none] }) (s1.heap.objs.size + 1) s1.heap.objs.size 0 .none := by
      have g := Heap.get?_push_size (s1.heap.push o1) (o := { cls := .type "enumerate", data := .fields #[.none, .bool false, .ref s1.heap.objs.size, rawInt 0, .none, .none] }) rfl
      rw [hz] at g
      exact g
    have k2 : ∀ b o, s1.heap.get? b = some o → ((s1.heap.push o1).push { cls := .type "enumerate", data := .fields #[.none, .bool false, .ref s1.heap.objs.size, rawInt 0, .none, .none] }).get? b = some o := fun b o x => Heap.get?_push_of_some _ (Heap.get?_push_of_some _ x)
    refine ⟨⟨_, he, rfl⟩, wpAny_pyIter_enum he ⟨s1.heap.objs.size + 1, [s1.heap.objs.size + 1, s1.heap.objs.size], _, _, H1, rfl, I1.kept (t' := s1.toks) k2, turn_enumG (Nat.succ_ne_self _) (g1 _ (Nat.le_succ _)) (g1 _ (Nat.le_refl _)), ⟨⟨.none, he⟩, f1 _ _ (Heap.get?_push_of_some _ (Heap.get?_push_size _ B1.free))⟩, fun b hb => ?_, q⟩⟩
    have le : s1.heap.objs.size ≤ b := by
      have two : b = s1.heap.objs.size + 1 ∨ b = s1.heap.objs.size := by simpa using hb
      rcases two with rfl | rfl
      · exact Nat.le_succ _
      · exact Nat.le_refl _
    exact I1.fpOk le (I1.hok.fresh le)
end Zd

namespace Zd
open PySem PySem.Spec PyProof.Rows L2

section
variable {Z : Cz} {Er : ErW} {O : List Nat} {vs : Option (List Nat)} {te ta tb tc : TE} {tt tu : TT} {m m1 m2 m3 : Env → M Dat} {mb mc : Env → M Bool} {tl : TA} {ml : Env → M (List Dat)}
def signs (x : Str) : List Dat := x.cps.toList.map fun c => .str ⟨#[c]⟩
def itemsG : Dat → Option (List Dat)
  | .lst ds => some ds
  | .tup ds => some ds
  | .str x => some (signs x)
  | _ => none
def Src.Of (Z : Cz) (H : Hp) (p : Pl) (s : Src) (ds : List Dat) : Prop := s.len Z.K H ds.length ∧ ∀ i d, ds[i]? = some d → ∃ x, s.has Z.K H i x ∧ IsD Z H p x d
theorem src_of {H : Hp} {p : Pl} {v : V} {d : Dat} {ds : List Dat} (h : IsD Z H p v d) (e : itemsG d = some ds) : ∃ s : Src, v = s.v ∧ ∀ H' p', Ext H p H' p' → s.Of Z H' p' ds := by
  cases d with
  | lst xs =>
    cases e
    obtain ⟨a, us, rfl, h1, h2⟩ := isD_lst.mp h
    refine ⟨.li a, rfl, fun H' p' ex => ⟨⟨us, (h1.ext ex).sq, h2.len⟩, fun i d hi => ?_⟩⟩
    obtain ⟨x, g1, g2⟩ := (h2.ext ex).get hi
    exact ⟨x, ⟨us, (h1.ext ex).sq, g1⟩, g2⟩
  | tup xs =>
    cases e
    obtain ⟨a, us, rfl, h1, h2⟩ := isD_tup.mp h
    refine ⟨.tu a, rfl, fun H' p' ex => ⟨⟨us, (h1.ext ex).sq, h2.len⟩, fun i d hi => ?_⟩⟩
    obtain ⟨x, g1, g2⟩ := (h2.ext ex).get hi
    exact ⟨x, ⟨us, (h1.ext ex).sq, g1⟩, g2⟩
  | str x =>
    cases e
    refine ⟨.tx x, isD_str.mp h, fun H' p' ex => ⟨by show x.cps.size = (signs x).length; unfold signs; rw [List.length_map, Array.length_toList], fun i d hi => ?_⟩⟩
    unfold signs at hi
    rw [List.getElem?_map, Array.getElem?_toList] at hi
    cases q : x.cps[i]? with
    | none => rw [q] at hi; cases hi
    | some c => rw [q] at hi; cases hi; exact ⟨_, ⟨c, q, rfl⟩, isD_str.mpr rfl⟩
  | _ => cases e
theorem walks_zipG {X : XR} (x : XOk X) {H : Hp} {p : Pl} {s1 s2 : Src} {xs ys : List Dat} (h1 : ∀ H' p', Ext H p H' p' → s1.Of Z H' p' xs) (h2 : ∀ H' p', Ext H p H' p' → s2.Of Z H' p' ys) : Walks Z X (ItzG Z.K s1 s2) (zipD xs ys) H p := fun H1 p1 S1 i e s => by
  obtain ⟨l1, g1⟩ := h1 H1 p1 (x.s e)
  obtain ⟨l2, g2⟩ := h2 H1 p1 (x.s e)
  rw [zip_len]
  refine ⟨fun lt => ?_, fun le => ⟨_, _, l1, l2, by omega, by omega, by omega⟩⟩
  have i1 : i < xs.length := by omega
  have i2 : i < ys.length := by omega
  obtain ⟨u, a1, b1⟩ := g1 i _ (List.getElem?_eq_getElem i1)
  obtain ⟨w, a2, b2⟩ := g2 i _ (List.getElem?_eq_getElem i2)
  refine ⟨⟨_, _, l1, l2, i1, i2⟩, fun y H' ⟨t, v', w', ev, nt, eH, f1, f2⟩ => ?_⟩
  subst ev eH
  cases f1 u a1
  cases f2 w a2
  exact ⟨same_new nt, _, zip_at i1 i2, new_tup s nt (isDs_cons.mpr ⟨_, _, rfl, b1, .one b2⟩)⟩
def iZipM (l : Env → M (List Dat)) (ρ : Env) : M (List Dat) := l ρ >>= fun ds => match ds with
  | [a, b] => M.opt (itemsG a) >>= fun xs => M.opt (itemsG b) >>= fun ys => pure (zipD xs ys)
  | _ => M.no
theorem ji_zipG {X : XR} (x : XOk X) (hl : JA Z Er O tl ml) : JI Z Er O X (iZipG Z.K tl) (iZipM ml) := fun σ H p ρ S R hE hS q =>
  hl σ H p ρ S _ hE hS ((q.bnd xE).mono fun ds S1 H1 p1 e1 s1 q1 vs hv => by
    split at q1
    · obtain ⟨v, w, rfl, h1, h2⟩ := isDs_two hv
      obtain ⟨xs, ex, q1⟩ := Post.opt q1
      obtain ⟨ys, ey, q1⟩ := Post.opt q1
      obtain ⟨a, rfl, k1⟩ := src_of h1 ex
      obtain ⟨b, rfl, k2⟩ := src_of h2 ey
      exact ⟨a, b, _, _, rfl, (k1 H1 p1 Ext.refl).1, (k2 H1 p1 Ext.refl).1, q1.pure xE s1 _ (walks_zipG x k1 k2)⟩
    · exact (bad_no (S := S1) q1).elim)
def enumD (xs : List Dat) : List Dat := (List.range xs.length).zip xs |>.map fun q => .tup [.int (q.1 : Int), q.2]
theorem enum_len {xs : List Dat} : (enumD xs).length = xs.length := by unfold enumD; simp
theorem enum_at {xs : List Dat} {i : Nat} {d : Dat} (h : xs[i]? = some d) : (enumD xs)[i]? = some (.tup [.int (i : Int), d]) := by
  unfold enumD
  rw [List.getElem?_map, List.getElem?_zip_eq_some (z := (i, d)) |>.mpr ⟨List.getElem?_range (List.getElem?_eq_some_iff.mp h).1, h⟩]
  rfl
theorem walks_enumG {X : XR} (x : XOk X) {H : Hp} {p : Pl} {s1 : Src} {xs : List Dat} (h1 : ∀ H' p', Ext H p H' p' → s1.Of Z H' p' xs) : Walks Z X (IteG Z.K s1) (enumD xs) H p := fun H1 p1 S1 i e s => by
  obtain ⟨l1, g1⟩ := h1 H1 p1 (x.s e)
  rw [enum_len]
  refine ⟨fun lt => ?_, fun le => by subst le; exact l1⟩
  obtain ⟨u, a1, b1⟩ := g1 i _ (List.getElem?_eq_getElem lt)
  refine ⟨⟨_, l1, lt⟩, fun y H' ⟨t, v', ev, nt, eH, f1⟩ => ?_⟩
  subst ev eH
  cases f1 u a1
  exact ⟨same_new nt, _, enum_at (List.getElem?_eq_getElem lt), new_tup s nt (isDs_cons.mpr ⟨_, _, rfl, isD_int.mpr rfl, .one b1⟩)⟩
def iEnM (l : Env → M (List Dat)) (ρ : Env) : M (List Dat) := l ρ >>= fun ds => match ds with
  | [a] => M.opt (itemsG a) >>= fun xs => pure (enumD xs)
  | _ => M.no
theorem ji_enumG {X : XR} (x : XOk X) (hl : JA Z Er O tl ml) : JI Z Er O X (iEnumG Z.K tl) (iEnM ml) := fun σ H p ρ S R hE hS q =>
  hl σ H p ρ S _ hE hS ((q.bnd xE).mono fun ds S1 H1 p1 e1 s1 q1 vs hv => by
    split at q1
    · obtain ⟨v, rfl, h1⟩ := isDs_one hv
      obtain ⟨xs, ex, q1⟩ := Post.opt q1
      obtain ⟨a, rfl, k1⟩ := src_of h1 ex
      exact ⟨a, _, rfl, (k1 H1 p1 Ext.refl).1, q1.pure xE s1 _ (walks_enumG x k1)⟩
    · exact (bad_no (S := S1) q1).elim)
/-- the signs of a text -/
theorem walks_str {X : XR} {H : Hp} {p : Pl} {x : Str} : Walks Z X (Its x) (signs x) H p := fun H1 p1 S1 i e s => by
  have el : (signs x).length = x.cps.size := by unfold signs; rw [List.length_map, Array.length_toList]
  rw [el]
  refine ⟨fun lt => ⟨lt, fun y H' ⟨eH, c, h1, h2⟩ => ?_⟩, fun le => Nat.le_of_eq le⟩
  subst eH h2
  refine ⟨Same.refl _, .str ⟨#[c]⟩, ?_, isD_str.mpr rfl⟩
  unfold signs
  rw [List.getElem?_map, Array.getElem?_toList, h1]
  rfl
def iStrM (a : Env → M Dat) (ρ : Env) : M (List Dat) := a ρ >>= fun d => M.opt (sT d) >>= fun x => pure (signs x)
theorem ji_str {X : XR} (ha : JD Z Er O ta m1) : JI Z Er O X (iStr ta) (iStrM m1) := fun σ H p ρ S R hE hS q =>
  ha σ H p ρ S _ hE hS ((q.bnd xE).mono fun d S1 H1 p1 e1 s1 q1 v hv => by
    obtain ⟨x, ex, q1⟩ := Post.opt q1
    rw [sT_is ex] at hv
    exact ⟨x, isD_str.mp hv, q1.pure xE s1 _ walks_str⟩)
end
end Zd

namespace Zd
open PySem PySem.Spec PyProof.Rows L2

/-! ### d.update(e) -/
section
variable {X : Cx} {a b c d e o : Expr} {pos apos cpos : Pos} {ta tb tc td ty : TE}
def tDUpd (td ty : TE) : TE := fun σ H Q => td σ H fun x H1 => ∃ a, x = .ref a ∧ L2.IsD H1 a ∧ ty σ H1 fun y H2 => ∃ b kvs more, y = .ref b ∧ a ≠ b ∧ H2 a = some (.dK kvs) ∧ H2 b = some (.dK more) ∧ kvs.length + more.length ≤ sizeLine ∧ Q .non (upd H2 a (.dK (mergeK kvs more)))
theorem pe_dupd (ho : PE X o td) (he : PE X e ty) (m : M1 X o "update" apos e cpos) : PE X (.Call (.Attribute o "update" apos) [e] [] cpos) (tDUpd td ty) := by
  refine ⟨fun pins s σ H Q I h => wpAny_Call_method m.base m.few m.line PySem.F.plainAttrs_dict PySem.F.slot_dict_update PySem.F.type_dict_update (thn (ho.run pins s σ H _ I h) fun u s1 ⟨x, H1, I1, rx, a, ex, da, q1⟩ => ?_)⟩
  subst ex
  cases (show u = Value.ref a from rx)
  obtain ⟨t1, t2, _⟩ := isD_at I1 da
  refine ⟨t1, t2, ?_⟩
  rw [m.trees]
  refine Calls.callWith_builtin rfl (Calls.evalArgs_plain (Calls.spliced_cons (thn (he.run pins s1 σ H1 _ I1 q1) fun iv s2 ⟨y, H2, I2, ry, b, kvs, more, ey, ne, ea, eb, lk, q2⟩ => Calls.spliced_nil ?_)))
  subst ey
  cases (show iv = Value.ref b from ry)
  obtain ⟨za, ha, vs, ra, da⟩ := dk_of I2.hok ea
  obtain ⟨zb, hb, ws, rb, db⟩ := dk_of I2.hok eb
  refine call_meetsIn PySem.F.slot_dict_update da.typeIs PySem.F.entry_dict_update (PySem.F.args_dict_update_2 _ _) (meets_dict_update (mixKind X.prog X.w) a b ne hb) ⟨vs, ws, da, db, by rw [← ra.length, ← rb.length]; exact lk, fun h' d1 d2 hs => ?_⟩
  have he : ∃ q, h'.get? a = some q := let ⟨q, _, _, hq, _⟩ := d1; ⟨q, hq⟩
  have hz : (mergeK kvs more).length ≤ sizeLine := Nat.le_trans (length_mergeK more kvs) lk
  exact ⟨.non, _, d_write (t' := s2.toks) I2 (by rw [ea]; exact True.intro) hs he (dk_new hz ha (rb.merge ra) d1), rfl, q2⟩
end

section
variable {Z : Cz} {Er : ErW} {O : List Nat} {vs : Option (List Nat)} {te ta tb tc : TE} {tt tu : TT} {m m1 m2 m3 : Env → M Dat} {mb mc : Env → M Bool} {tl : TA} {ml : Env → M (List Dat)} {ts tr : TS} {ms mr : Env → M Flow}

/-! ### f'..', join -/
def dFmt (d : Dat) : M Dat := match d with
  | .str x => M.need (decide (x.length ≤ 100000)) >>= fun _ => pure (.str x)
  | .int i => M.need (decide (i.natAbs.log2 < 1920)) >>= fun _ => pure (.str (toString i))
  | _ => M.no
theorem j_fmt (h : JD Z Er O te m) : JD Z Er O (tFmt te) (xUn dFmt m) := fun σ H p ρ S Q hE hS q =>
  h σ H p ρ S _ hE hS ((q.bnd xE).mono fun d S1 H1 p1 e1 s1 q1 v hv => by
    unfold dFmt at q1
    split at q1
    · obtain ⟨c, q1⟩ := Post.need q1
      exact .inl ⟨_, isD_str.mp hv, lim (of_decide_eq_true c), q1.pure xE s1 _ (isD_str.mpr rfl)⟩
    · obtain ⟨c, q1⟩ := Post.need q1
      exact .inr ⟨_, isD_int.mp hv, of_decide_eq_true c, q1.pure xE s1 _ (isD_str.mpr rfl)⟩
    · exact (bad_no (S := S1) q1).elim)
def xJs : List (Env → M Dat) → Str → Env → M Str
  | [], acc, _ => pure acc
  | m :: r, acc, ρ => m ρ >>= fun d => M.opt (sT d) >>= fun y => M.need (decide ((acc ++ y).length ≤ 100000)) >>= fun _ => xJs r (acc ++ y) ρ
inductive JJ (Z : Cz) (Er : ErW) (O : List Nat) : List TE → List (Env → M Dat) → Prop where
  | nil : JJ Z Er O [] []
  | cons {t : TE} {m : Env → M Dat} {ts : List TE} {ms : List (Env → M Dat)} (h : JD Z Er O t m) (r : JJ Z Er O ts ms) : JJ Z Er O (t :: ts) (m :: ms)
theorem jj_run {ts : List TE} {ms : List (Env → M Dat)} (h : JJ Z Er O ts ms) : ∀ (acc : Str) (σ : L2.St) (H : Hp) (p : Pl) (ρ : Env) (S : List Dat) (Q : Str → Hp → Prop), IsE Z O H p σ ρ → IsS Z H p S → Post Z Er ExtE (xJs ms acc ρ S) H p (fun y _ H' p' => Q y H') → tJs ts acc σ H Q := by
  induction h with
  | nil => exact fun acc σ H p ρ S Q hE hS q => q.pure xE hS
  | cons h r ih => exact fun acc σ H p ρ S Q hE hS q => h σ H p ρ S _ hE hS ((q.bnd xE).mono fun d S1 H1 p1 e1 s1 q1 v hv => by
      obtain ⟨y, ey, q1⟩ := Post.opt q1
      rw [sT_is ey] at hv
      obtain ⟨c, q1⟩ := Post.need q1
      exact ⟨y, isD_str.mp hv, lim (of_decide_eq_true c), ih _ σ H1 p1 ρ S1 _ (hE.ext e1 hS) s1 q1⟩)
def xJoined (l : List (Env → M Dat)) (ρ : Env) : M Dat := xJs l Str.empty ρ >>= fun y => pure (.str y)
theorem j_joined {ts : List TE} {ms : List (Env → M Dat)} (h : JJ Z Er O ts ms) : JD Z Er O (fun σ H Q => tJs ts Str.empty σ H fun out H1 => Q (.str out) H1) (xJoined ms) := fun σ H p ρ S Q hE hS q =>
  jj_run h _ σ H p ρ S _ hE hS ((q.bnd xE).mono fun y S1 H1 p1 e1 s1 q1 => q1.pure xE s1 _ (isD_str.mpr rfl))
def strsD : List Dat → Option (List Str)
  | [] => some []
  | .str x :: r => (strsD r).map (x :: ·)
  | _ => none
theorem strsD_is {H : Hp} {p : Pl} : ∀ {ds : List Dat} {vs : List V} {xs : List Str}, IsDs Z H p vs ds → strsD ds = some xs → vs = xs.map V.str
  | [], _, _, h, e => by cases e; exact isDs_nil.mp h
  | d :: ds, _, bs, h, e => by
    obtain ⟨v, r, rfl, h1, h2⟩ := isDs_cons.mp h
    cases d with
    | str b =>
      unfold strsD at e
      cases z : strsD ds with
      | none => rw [z] at e; cases e
      | some cs =>
        rw [z] at e
        cases e
        rw [isD_str.mp h1, strsD_is h2 z]
        rfl
    | _ => cases e
def xJoin (m1 m2 : Env → M Dat) (ρ : Env) : M Dat := m1 ρ >>= fun a => M.opt (sT a) >>= fun x => m2 ρ >>= fun b => M.opt (dLst b) >>= fun l => M.opt (strsD l) >>= fun ys => M.need (decide ((ys.map (·.length)).sum + ys.length * x.length ≤ 16777216)) >>= fun _ => pure (.str (Txt.join x ys))
theorem j_join (h1 : JD Z Er O ta m1) (h2 : JD Z Er O tb m2) : JD Z Er O (tM1 (fun x xs H Q => ∃ a p, ∃ ys : List Str, x = .str a ∧ xs = [.ref p] ∧ (SqL Z.K H p (ys.map V.str) ∨ SqT Z.K H p (ys.map V.str)) ∧
      (ys.map (·.length)).sum + ys.length * a.length ≤ 16777216 ∧ Q (.str (Txt.join a ys)) H) ta tb) (xJoin m1 m2) := fun σ H p ρ S Q hE hS q =>
  h1 σ H p ρ S _ hE hS ((q.bnd xE).mono fun d S1 H1 p1 e1 s1 q1 v hv => by
    obtain ⟨x, ex, q1⟩ := Post.opt q1
    rw [sT_is ex] at hv
    refine ⟨⟨x, isD_str.mp hv⟩, h2 σ H1 p1 ρ S1 _ (hE.ext e1 hS) s1 ((q1.bnd xE).mono fun e S2 H2 p2 e2 s2 q3 w hw => ?_)⟩
    obtain ⟨l, el, q3⟩ := Post.opt q3
    obtain ⟨ys, ey, q3⟩ := Post.opt q3
    obtain ⟨c, q3⟩ := Post.need q3
    rw [dLst_some el] at hw
    obtain ⟨a, us, rfl, g1, g2⟩ := isD_lst.mp hw
    rw [strsD_is g2 ey] at g1
    exact ⟨x, a, ys, isD_str.mp hv, rfl, .inl g1.sq, of_decide_eq_true c, q3.pure xE s2 _ (isD_str.mpr rfl)⟩)
/-! ### truth -/
def truD : Dat → Option Bool
  | .non => some false
  | .bl b => some b
  | .int i => some (i != 0)
  | .tup ds => some (!ds.isEmpty)
  | .lst ds => some (!ds.isEmpty)
  | _ => none
def bTru (a : Env → M Dat) (ρ : Env) : M Bool := a ρ >>= fun d => M.opt (truD d)
theorem emp {α β : Type} {xs : List α} {ys : List β} (h : xs.length = ys.length) : (!xs.isEmpty) = !ys.isEmpty := by
  cases xs <;> cases ys <;> first | rfl | cases h
theorem jb_tru (ha : JD Z Er O ta m1) : JB Z Er O (fun σ H Q => ta σ H fun x H' => ∃ k, TruV Z.K x H' k ∧ Q k H') (bTru m1) := fun σ H p ρ S Q hE hS q =>
  ha σ H p ρ S _ hE hS ((q.bnd xE).mono fun d S1 H1 p1 e1 s1 q1 v hv => by
    obtain ⟨b, e, k⟩ := opt_pure xE q1 s1
    refine ⟨b, ?_, k b rfl⟩
    cases d with
    | non => cases e; rw [isD_non.mp hv]; rfl
    | bl b => cases e; rw [isD_bl.mp hv]; rfl
    | int i => cases e; rw [isD_int.mp hv]; rfl
    | tup ds => cases e; obtain ⟨a, vs, rfl, g1, g2⟩ := isD_tup.mp hv; exact .inr (.inl ⟨vs, g1.sq, (emp g2.len).symm⟩)
    | lst ds => cases e; obtain ⟨a, vs, rfl, g1, g2⟩ := isD_lst.mp hv; exact .inl ⟨vs, g1.sq, (emp g2.len).symm⟩
    | _ => cases e)
/-! ### {k: v, ..} -/
def IsPs (Z : Cz) (H : Hp) (p : Pl) (vs : List (V × V)) (ps : List (Dat × Dat)) : Prop := IsDs Z H p (vs.map (·.1)) (ps.map (·.1)) ∧ IsDs Z H p (vs.map (·.2)) (ps.map (·.2))
inductive JPs (Z : Cz) (Er : ErW) (O : List Nat) : List (TE × TE) → List ((Env → M Dat) × (Env → M Dat)) → Prop where
  | nil : JPs Z Er O [] []
  | cons {t u : TE} {m n : Env → M Dat} {ts : List (TE × TE)} {ms : List ((Env → M Dat) × (Env → M Dat))} (h : JD Z Er O t m) (g : JD Z Er O u n) (r : JPs Z Er O ts ms) : JPs Z Er O ((t, u) :: ts) ((m, n) :: ms)
theorem jps_run {ts : List (TE × TE)} {ms : List ((Env → M Dat) × (Env → M Dat))} (h : JPs Z Er O ts ms) : ∀ (σ : L2.St) (H : Hp) (p : Pl) (ρ : Env) (S : List Dat) (Q : List (V × V) → Hp → Prop), IsE Z O H p σ ρ → IsS Z H p S → Post Z Er ExtE (xPairs ms ρ S) H p (fun ps _ H' p' => ∀ vs, IsPs Z H' p' vs ps → Q vs H') → tPairs ts σ H Q := by
  induction h with
  | nil => exact fun σ H p ρ S Q hE hS q => q.pure xE hS [] ⟨isDs_nil.mpr rfl, isDs_nil.mpr rfl⟩
  | cons h g r ih => exact fun σ H p ρ S Q hE hS q => h σ H p ρ S _ hE hS ((q.bnd xE).mono fun d S1 H1 p1 e1 s1 q1 v hv => g σ H1 p1 ρ S1 _ (hE.ext e1 hS) s1 ((q1.bnd xE).mono fun e S2 H2 p2 e2 s2 q2 w hw =>
      ih σ H2 p2 ρ S2 _ ((hE.ext e1 hS).ext e2 s1) s2 ((q2.bnd xE).mono fun l S3 H3 p3 e3 s3 q3 vs ⟨k1, k2⟩ => q3.pure xE s3 ((v, w) :: vs) ⟨isDs_cons.mpr ⟨v, _, rfl, hv.ext (e2.trans e3).s, k1⟩, isDs_cons.mpr ⟨w, _, rfl, hw.ext e3.s, k2⟩⟩)))
theorem keys_is {H : Hp} {p : Pl} : ∀ {ps : List (Dat × Dat)} {vs : List (V × V)} {ks : List Key}, IsPs Z H p vs ps → keysD ps = some ks → vs = (ks.zip (vs.map (·.2))).map (fun kv => (kV kv.1, kv.2)) ∧ ks.length = vs.length
  | [], vs, _, ⟨h, _⟩, e => by
    cases e
    cases vs with
    | nil => exact ⟨rfl, rfl⟩
    | cons _ _ => exact absurd (isDs_nil.mp h) nofun
  | (a, b) :: ps, vs, ks, ⟨h1, h2⟩, e => by
    cases vs with
    | nil => obtain ⟨_, _, z, _⟩ := isDs_cons.mp h1; cases z
    | cons v vs =>
      obtain ⟨x, r, z, g1, g2⟩ := isDs_cons.mp h1
      obtain ⟨y, r', z', g1', g2'⟩ := isDs_cons.mp h2
      cases z
      cases z'
      unfold keysD at e
      cases ek : keyD a with
      | none => rw [ek] at e; cases e
      | some k =>
        cases er : keysD ps with
        | none => rw [ek, er] at e; cases e
        | some kr =>
          rw [ek, er] at e
          cases e
          obtain ⟨q1, q2⟩ := keys_is (ps := ps) ⟨g2, g2'⟩ er
          refine ⟨?_, congrArg (· + 1) q2⟩
          rw [List.map_cons, List.zip_cons_cons, List.map_cons, ← q1, ← keyD_is g1 ek]
theorem val_no {k : Key} : ∀ {ks : List Key} {vs : List V}, ks.any (fun g => decide (g = k)) = false → valV (ks.zip vs) k = none
  | [], _, _ => rfl
  | g :: ks, [], _ => rfl
  | g :: ks, v :: vs, h => by
    rw [List.any_cons, Bool.or_eq_false_iff] at h
    rw [List.zip_cons_cons, valV_neg (of_decide_eq_false h.1), val_no h.2]
theorem nd_app {ks ms : List Key} {k : Key} : noDup (ks ++ k :: ms) = true → ks.any (fun g => decide (g = k)) = false ∧ noDup ((ks ++ [k]) ++ ms) = true := by
  intro h
  refine ⟨?_, by rw [List.append_assoc]; exact h⟩
  induction ks with
  | nil => rfl
  | cons g ks ih =>
    rw [List.cons_append] at h
    unfold noDup at h
    rw [Bool.and_eq_true, Bool.not_eq_true', List.any_append, Bool.or_eq_false_iff, List.any_cons, Bool.or_eq_false_iff] at h
    rw [List.any_cons, Bool.or_eq_false_iff]
    refine ⟨decide_eq_false fun e => of_decide_eq_false h.1.2.1 e.symm, ih h.2⟩
theorem merge_new : ∀ {ms ks : List Key} {us vs : List V}, noDup (ks ++ ms) = true → ks.length = vs.length → ms.length = us.length → mergeK (ks.zip vs) (ms.zip us) = (ks ++ ms).zip (vs ++ us)
  | [], ks, us, vs, _, h1, h2 => by
    have e : us = [] := List.length_eq_zero_iff.mp h2.symm
    subst e
    rw [List.append_nil, List.append_nil]
    rfl
  | k :: ms, ks, [], vs, _, h1, h2 => by cases h2
  | k :: ms, ks, u :: us, vs, h, h1, h2 => by
    obtain ⟨n1, n2⟩ := nd_app h
    rw [List.zip_cons_cons]
    show mergeK (putK (ks.zip vs) k u) (ms.zip us) = _
    rw [putK_new u (val_no n1)]
    have e : ks.zip vs ++ [(k, u)] = (ks ++ [k]).zip (vs ++ [u]) := by rw [List.zip_append h1]; rfl
    rw [e, merge_new n2 (by simp [h1]) (Nat.succ.inj h2), List.append_assoc, List.append_assoc]
    rfl
theorem jf_disp {trs : List (TE × TE)} {ms : List ((Env → M Dat) × (Env → M Dat))} (h : JPs Z Er O trs ms) : JF Z Er O (tDisp trs) (xDisp ms) := fun σ H p ρ S Q hE hS q D nD => by
  obtain ⟨hE2, hS2⟩ := own_new (o := .dK []) hE hS nD
  have eN : ExtE H p (upd H D (.dK [])) p := ExtE.new nD
  refine jps_run h σ _ _ ρ S _ hE2 hS2 ((q.bndK.up xE eN).plus.mono fun ps S1 H1 p1 e1 s1 q1 vs hv => ?_)
  have mD : D ∈ p.ω ++ [D] := List.mem_append_right _ (List.mem_singleton.mpr rfl)
  have hD : H1 D = some (.dK []) := e1.k D _ upd_same (hS2.dj D mD).1
  obtain ⟨ks, ek, q1⟩ := Post.opt q1
  obtain ⟨c, q1⟩ := Post.need q1
  rw [Bool.and_eq_true, decide_eq_true_eq] at c
  obtain ⟨k1, k2⟩ := keys_is hv ek
  refine ⟨hD, ks.zip (vs.map (·.2)), k1, by rw [List.length_zip]; exact Nat.le_trans (Nat.min_le_left _ _) c.2, ?_⟩
  have mk : mergeK [] (ks.zip (vs.map (·.2))) = ks.zip (vs.map (·.2)) := by
    have := merge_new (ks := []) (vs := []) (ms := ks) (us := vs.map (·.2)) c.1 rfl (by rw [List.length_map]; exact k2)
    exact this
  rw [mk]
  have mD1 : D ∈ p1.ω := by rw [e1.ω]; exact mD
  have ePut : Ext H1 p1 (L2.upd H1 D (.dK (ks.zip (vs.map (·.2))))) p1 := ext_put mD1
  have sPut := s1.put (o := .dK (ks.zip (vs.map (·.2)))) mD1
  have ep : p1 = ⟨p1.α, p.ω ++ [D], p.γ⟩ := by
    have h1 := e1.ω
    have h2 := e1.γ
    cases p1
    cases h1
    cases h2
    rfl
  have nh : ¬ (⟨p1.α, p.ω, p.γ⟩ : Pl).has D := by
    rintro (h | h | h)
    · exact (s1.dj D mD1).1 h
    · exact hS.wt D (.inl h) nD
    · exact hS.wt D (.inr h) nD
  have ex : ExtE H p (L2.upd H1 D (.dK (ks.zip (vs.map (·.2))))) ⟨p1.α, p.ω, p.γ⟩ := by
    have z : ExtE H p H1 ⟨p1.α, p.ω, p.γ⟩ := eN.trans ⟨e1.α, rfl, rfl, e1.k, e1.t⟩
    exact ⟨z.α, rfl, rfl, fun a o h n => by rw [upd_ne (ne_of_none h nD)]; exact z.k a o h n, fun a n => by rw [upd_ne fun c => n (by rw [c]; exact nD)]; exact z.t a n⟩
  have sL : IsS Z (L2.upd H1 D (.dK (ks.zip (vs.map (·.2))))) ⟨p1.α, p.ω, p1.γ⟩ S1 := (sPut.less (ω := p.ω) fun a h => by rw [e1.ω]; exact List.mem_append_left _ h)
  have eg : p1.γ = p.γ := e1.γ
  rw [eg] at sL
  refine q1 _ _ ex sL D nD (by rw [upd_same]; exact nofun) nh (by rw [← ep]; exact sPut) ?_
  rw [← ep]
  exact ⟨_, upd_same, by rw [List.length_map]; exact k2, hv.2.ext ePut⟩
theorem j_disp {trs : List (TE × TE)} {ms : List ((Env → M Dat) × (Env → M Dat))} (h : JPs Z Er O trs ms) : JD Z Er O (tDisp trs) (xDisp ms) := (jf_disp h).d
end
end Zd

namespace Zd
open PySem PySem.Spec PyProof.Rows L2
open AutoSeq1 (wpAny_loadPart')

/-! ### == with dicts among what is compared -/
/-- its == says: not mine -/
def Mute (A : Around) (id : String) (s : Shared) (a b : Value) : Prop := ∀ (prog : Program) (w : World) (E : Value → Shared → Prop) (Q : Value → Shared → Prop), Q .notImplemented s → wpAny (model prog w) A (call (.builtin id) [a, b]) Q E s
/-- what is no float is asked so -/
def Plainly (A : Around) (s : Shared) (a b : Value) : Prop := ∀ (prog : Program) (w : World) (E : Value → Shared → Prop) (Q : Bool → Shared → Prop), wpAny (model prog w) A (richCompare .Eq a b) (fun v s' => wpAny (model prog w) A (truthOfDropped v) Q E s') E s → wpAny (model prog w) A (eqBool a b) Q E s
theorem eqAt_mute {s : Shared} {A : Around} {a b : Value} {T U i j : String} (pl : Plainly A s a b) (ha : s.TypeIs a T) (hb : s.TypeIs b U) (hTU : (Value.type T != Value.type U) = true) (hs : isSubtype (.type U) (.type T) = pure false) (h1 : Slot T (cmpInfo .Eq).2.1 i) (h2 : Slot U (cmpInfo .Eq).2.2 j)
    (m1 : Mute A i s a b) (m2 : Mute A j s b a) (sm : ∀ (prog : Program) (w : World) (E : Value → Shared → Prop) (Q : Bool → Shared → Prop), Q false s → wpAny (model prog w) A (isSame a b) Q E s) (hu : A.units < cLine) : SeqAt.EqAt A s a b false := fun prog w E Q q =>
  pl prog w E Q (SeqAt.rc_eq_decline_or (k := false) ha hb hTU hs h1 h2 (fun Q' q' => m1 prog w E Q' q') (fun Q' q' => m2 prog w E Q' q') (fun Q' q' => sm prog w E Q' q') (.inr hu) (wpAny_truthy_bool q))
/-- a dict lies there -/
def DAt (s : Shared) (d : Addr) : Prop := ∃ (dd : Option Addr) (es : Array DictEntry) (ep : Nat) (sl : Array (Option Value)), s.heap.get? d = some { cls := .type "dict", dict := dd, data := .dict es ep, slots := sl }
theorem DAt.ty {s : Shared} {d : Addr} (h : DAt s d) : s.TypeIs (.ref d) "dict" := let ⟨_, _, _, _, e⟩ := h; ⟨_, e, rfl⟩
theorem dict_mute {s : Shared} {A : Around} {d : Addr} {b : Value} {T : String} (hd : DAt s d) (hb : s.TypeIs b T) (hs : isSubtype (.type T) (.type "dict") = pure false) : Mute A "dict.__eq__" s (.ref d) b := fun prog w E Q q => by
  refine wpAny_call_entry PySem.F.slot_dict_eq hd.ty PySem.F.entry_dict_eq ?_ (PySem.F.args_dict_eq_2 _ _)
  change wpAny _ _ (Builtin.Dict.dictSlotArgs "__eq__" ⟨[.ref d, b], []⟩ >>= _) _ _ s
  refine wpAny_bind ?_
  unfold Builtin.Dict.dictSlotArgs
  refine wpAny_bind (wpAny_notOrdered_dict hd.ty ?_)
  change wpAny _ _ (pure (Value.ref d, b)) _ _ s
  refine wpAny_pure (wpAny_bind (wpAny_isInstance hb hs ?_))
  simp only [Bool.not_false, if_true]
  refine wpAny_bind (wpAny_rule ?_)
  exact wpAny_pure (by exact ⟨_, rfl, q⟩)
theorem gives_mute {s : Shared} {A : Around} {id T n : String} {a b : Value} (sl : Slot T n id) (ha : s.TypeIs a T) {Bd : Builtin} (he : entryFor table id = some Bd) (hg : Meets (Bd ⟨[a, b], []⟩) fun _ R s' => s' = s ∧ R (.ok (.ret .notImplemented)) s') (ok : argsOk id ⟨[a, b], []⟩) : Mute A id s a b := fun prog w E Q q =>
  call_meets sl ha he ok hg ⟨rfl, q⟩

/-! the others, asked of a dict -/
section
variable {d : Addr} {dd : Option Addr} {es : Array DictEntry} {ep : Nat} {sl : Array (Option Value)}
abbrev No (d : Addr) (dd : Option Addr) (es : Array DictEntry) (ep : Nat) (sl : Array (Option Value)) : PySem.Spec := fun _ R s => s.heap.get? d = some { cls := .type "dict", dict := dd, data := .dict es ep, slots := sl } ∧ R (.ok (.ret .notImplemented)) s
theorem no_non : Meets (Builtin.«NoneType.__eq__» ⟨[.none, .ref d], []⟩) (No d dd es ep sl) := .of_wp fun prog w A R s ⟨hl, h⟩ => by
  obtain ⟨hp, g, dr, tk, os⟩ := s
  wp_walk using wpAny_loadPart' hl, wpAny_load hl
  exact ⟨_, rfl, h⟩
theorem no_bl (b : Bool) : Meets (Builtin.«int.__eq__» ⟨[.bool b, .ref d], []⟩) (No d dd es ep sl) := .of_wp fun prog w A R s ⟨hl, h⟩ => by
  obtain ⟨hp, g, dr, tk, os⟩ := s
  wp_walk using wpAny_loadPart' hl, wpAny_load hl
  exact ⟨_, rfl, h⟩
theorem no_int (b : Int) (u : Tok) : Meets (Builtin.«int.__eq__» ⟨[.int b u, .ref d], []⟩) (No d dd es ep sl) := .of_wp fun prog w A R s ⟨hl, h⟩ => by
  obtain ⟨hp, g, dr, tk, os⟩ := s
  wp_walk using wpAny_loadPart' hl, wpAny_load hl
  exact ⟨_, rfl, h⟩
theorem no_str (b : Str) (u : Tok) : Meets (Builtin.«str.__eq__» ⟨[.str b u, .ref d], []⟩) (No d dd es ep sl) := .of_wp fun prog w A R s ⟨hl, h⟩ => by
  obtain ⟨hp, g, dr, tk, os⟩ := s
  wp_walk using wpAny_loadPart' hl, wpAny_load hl
  exact ⟨_, rfl, h⟩
theorem no_lst (l : Addr) (items : Array Value) (n : Nat) (d2 : Option Addr) (s2 : Array (Option Value)) : Meets (Builtin.«list.__eq__» ⟨[.ref l, .ref d], []⟩) (fun A R s => s.heap.get? l = some { cls := .type "list", dict := d2, data := .seq items n, slots := s2 } ∧ No d dd es ep sl A R s) := .of_wp fun prog w A R s ⟨hl, hd, h⟩ => by
  obtain ⟨hp, g, dr, tk, os⟩ := s
  have f1 := F.sub_dict_list
  wp_walk using wpAny_loadPart' hl, wpAny_load hl, wpAny_loadPart' hd, wpAny_load hd
  exact ⟨_, rfl, h⟩
theorem no_tup (l : Addr) (items : Array Value) (n : Nat) (d2 : Option Addr) (s2 : Array (Option Value)) : Meets (Builtin.«tuple.__eq__» ⟨[.ref l, .ref d], []⟩) (fun A R s => s.heap.get? l = some { cls := .type "tuple", dict := d2, data := .seq items n, slots := s2 } ∧ No d dd es ep sl A R s) := .of_wp fun prog w A R s ⟨hl, hd, h⟩ => by
  obtain ⟨hp, g, dr, tk, os⟩ := s
  have f1 := F.sub_dict_tuple
  wp_walk using wpAny_loadPart' hl, wpAny_load hl, wpAny_loadPart' hd, wpAny_load hd
  exact ⟨_, rfl, h⟩
end
end Zd

namespace Zd
open PySem PySem.Spec PyProof.Rows L2

/-! ### == of trees with empty dicts -/
inductive KD (s : Shared) : Value → Nat → Prop
  | non : KD s .none 0
  | bl (b : Bool) : KD s (.bool b) 1
  | int (i : Int) (t : Tok) : KD s (.int i t) 2
  | str (x : Str) (t : Tok) : KD s (.str x t) 3
  | lst {a : Addr} {its : Array Value} (h : s.heap.IsList a its) : KD s (.ref a) 4
  | tup {a : Addr} {its : Array Value} (h : s.heap.IsTuple a its) : KD s (.ref a) 5
  | dic {a : Addr} (h : DAt s a) : KD s (.ref a) 6
section
variable {s : Shared} {A : Around} {d : Addr} (hd : DAt s d) (hu : A.units < cLine)
include hd hu
theorem ea_non_d : SeqAt.EqAt A s .none (.ref d) false := by
  obtain ⟨dd, es, ep, sl, e⟩ := id hd
  exact eqAt_mute (by (intro prog w E Q q; unfold eqBool; refine wpAny_holding (wpAny_ite_split (fun hab => absurd (eq_of_beq hab) nofun) fun _ => wpAny_bind q))) rfl hd.ty (by decide) F.sub_dict_NoneType F.slot_NoneType_eq F.slot_dict_eq_refl (fun _ _ _ _ q => call_meets F.slot_NoneType_eq rfl F.entry_NoneType_eq (F.args_NoneType_eq_2 _ _) no_non ⟨e, q⟩) (dict_mute hd rfl F.sub_NoneType_dict) (fun _ _ _ _ q => wpAny_of_eq (rfl : isSame .none (.ref d) = pure false) q) hu
theorem ea_d_non : SeqAt.EqAt A s (.ref d) .none false := by
  obtain ⟨dd, es, ep, sl, e⟩ := id hd
  exact eqAt_mute (by (intro prog w E Q q; unfold eqBool; refine wpAny_holding (wpAny_ite_split (fun hab => absurd (eq_of_beq hab) nofun) fun _ => wpAny_bind q))) hd.ty rfl (by decide) F.sub_NoneType_dict F.slot_dict_eq F.slot_NoneType_eq_refl (dict_mute hd rfl F.sub_NoneType_dict) (fun _ _ _ _ q => call_meets F.slot_NoneType_eq_refl rfl F.entry_NoneType_eq (F.args_NoneType_eq_2 _ _) no_non ⟨e, q⟩) (fun _ _ _ _ q => wpAny_of_eq (rfl : isSame (.ref d) .none = pure false) q) hu
theorem ea_bl_d (b : Bool) : SeqAt.EqAt A s (.bool b) (.ref d) false := by
  obtain ⟨dd, es, ep, sl, e⟩ := id hd
  exact eqAt_mute (by (intro prog w E Q q; unfold eqBool; refine wpAny_holding (wpAny_ite_split (fun hab => absurd (eq_of_beq hab) nofun) fun _ => wpAny_bind q))) rfl hd.ty (by decide) F.sub_dict_bool F.slot_bool_eq F.slot_dict_eq_refl (fun _ _ _ _ q => call_meets F.slot_bool_eq rfl F.entry_int_eq (F.args_int_eq_2 _ _) (no_bl b) ⟨e, q⟩) (dict_mute hd rfl F.sub_bool_dict) (fun _ _ _ _ q => wpAny_of_eq (rfl : isSame (.bool b) (.ref d) = pure false) q) hu
theorem ea_d_bl (b : Bool) : SeqAt.EqAt A s (.ref d) (.bool b) false := by
  obtain ⟨dd, es, ep, sl, e⟩ := id hd
  exact eqAt_mute (by (intro prog w E Q q; unfold eqBool; refine wpAny_holding (wpAny_ite_split (fun hab => absurd (eq_of_beq hab) nofun) fun _ => wpAny_bind q))) hd.ty rfl (by decide) F.sub_bool_dict F.slot_dict_eq F.slot_bool_eq_refl (dict_mute hd rfl F.sub_bool_dict) (fun _ _ _ _ q => call_meets F.slot_bool_eq_refl rfl F.entry_int_eq (F.args_int_eq_2 _ _) (no_bl b) ⟨e, q⟩) (fun _ _ _ _ q => wpAny_of_eq (rfl : isSame (.ref d) (.bool b) = pure false) q) hu
theorem ea_int_d (b : Int) (t : Tok) : SeqAt.EqAt A s (.int b t) (.ref d) false := by
  obtain ⟨dd, es, ep, sl, e⟩ := id hd
  exact eqAt_mute (by (intro prog w E Q q; unfold eqBool; refine wpAny_holding (wpAny_ite_split (fun hab => absurd (eq_of_beq hab) nofun) fun _ => wpAny_bind q))) (typeIs_int s b t) hd.ty (by decide) F.sub_dict_int F.slot_int_eq F.slot_dict_eq_refl (fun _ _ _ _ q => call_meets F.slot_int_eq (typeIs_int s b t) F.entry_int_eq (F.args_int_eq_2 _ _) (no_int b t) ⟨e, q⟩) (dict_mute hd (typeIs_int s b t) F.sub_int_dict) (fun _ _ _ _ q => wpAny_of_eq (rfl : isSame (.int b t) (.ref d) = pure false) q) hu
theorem ea_d_int (b : Int) (t : Tok) : SeqAt.EqAt A s (.ref d) (.int b t) false := by
  obtain ⟨dd, es, ep, sl, e⟩ := id hd
  exact eqAt_mute (by (intro prog w E Q q; unfold eqBool; refine wpAny_holding (wpAny_ite_split (fun hab => absurd (eq_of_beq hab) nofun) fun _ => wpAny_bind q))) hd.ty (typeIs_int s b t) (by decide) F.sub_int_dict F.slot_dict_eq F.slot_int_eq_refl (dict_mute hd (typeIs_int s b t) F.sub_int_dict) (fun _ _ _ _ q => call_meets F.slot_int_eq_refl (typeIs_int s b t) F.entry_int_eq (F.args_int_eq_2 _ _) (no_int b t) ⟨e, q⟩) (fun _ _ _ _ q => wpAny_of_eq (rfl : isSame (.ref d) (.int b t) = pure false) q) hu
theorem ea_str_d (b : Str) (t : Tok) : SeqAt.EqAt A s (.str b t) (.ref d) false := by
  obtain ⟨dd, es, ep, sl, e⟩ := id hd
  exact eqAt_mute (by (intro prog w E Q q; unfold eqBool; refine wpAny_holding (wpAny_ite_split (fun hab => absurd (eq_of_beq hab) nofun) fun _ => wpAny_bind q))) (typeIs_str s b t) hd.ty (by decide) F.sub_dict_str F.slot_str_eq F.slot_dict_eq_refl (fun _ _ _ _ q => call_meets F.slot_str_eq (typeIs_str s b t) F.entry_str_eq (F.args_str_eq_2 _ _) (no_str b t) ⟨e, q⟩) (dict_mute hd (typeIs_str s b t) F.sub_str_dict) (fun _ _ _ _ q => wpAny_of_eq (rfl : isSame (.str b t) (.ref d) = pure false) q) hu
theorem ea_d_str (b : Str) (t : Tok) : SeqAt.EqAt A s (.ref d) (.str b t) false := by
  obtain ⟨dd, es, ep, sl, e⟩ := id hd
  exact eqAt_mute (by (intro prog w E Q q; unfold eqBool; refine wpAny_holding (wpAny_ite_split (fun hab => absurd (eq_of_beq hab) nofun) fun _ => wpAny_bind q))) hd.ty (typeIs_str s b t) (by decide) F.sub_str_dict F.slot_dict_eq F.slot_str_eq_refl (dict_mute hd (typeIs_str s b t) F.sub_str_dict) (fun _ _ _ _ q => call_meets F.slot_str_eq_refl (typeIs_str s b t) F.entry_str_eq (F.args_str_eq_2 _ _) (no_str b t) ⟨e, q⟩) (fun _ _ _ _ q => wpAny_of_eq (rfl : isSame (.ref d) (.str b t) = pure false) q) hu
theorem ea_lst_d {l : Addr} {its : Array Value} (hl : s.heap.IsList l its) : SeqAt.EqAt A s (.ref l) (.ref d) false := by
  obtain ⟨dd, es, ep, sl, e⟩ := id hd
  obtain ⟨⟨cls, d2, data, s2⟩, ho, hc, n, hdt⟩ := hl
  cases hc
  cases hdt
  have ne : l ≠ d := fun z => by rw [z, e] at ho; exact absurd (congrArg Obj.cls (Option.some.inj ho)) (by simp)
  refine eqAt_mute (fun prog w E Q q => ?_) (⟨_, ho, rfl⟩ : s.TypeIs (.ref l) "list") hd.ty (by decide) F.sub_dict_list F.slot_list_eq F.slot_dict_eq_refl (fun _ _ _ _ q => call_meets F.slot_list_eq ⟨_, ho, rfl⟩ F.entry_list_eq (F.args_list_eq_2 _ _) (no_lst l its n d2 s2) ⟨ho, e, q⟩) (dict_mute hd ⟨_, ho, rfl⟩ F.sub_list_dict) (fun _ _ _ _ q => SeqAt.wpAny_isSame_ref_other' ne ho e (by simp) q) hu
  unfold eqBool
  exact wpAny_holding (wpAny_ite_split (fun hab => absurd (by injection eq_of_beq hab) ne) fun _ => wpAny_bind q)
theorem ea_d_lst {l : Addr} {its : Array Value} (hl : s.heap.IsList l its) : SeqAt.EqAt A s (.ref d) (.ref l) false := by
  obtain ⟨dd, es, ep, sl, e⟩ := id hd
  obtain ⟨⟨cls, d2, data, s2⟩, ho, hc, n, hdt⟩ := hl
  cases hc
  cases hdt
  have ne : d ≠ l := fun z => by rw [← z, e] at ho; exact absurd (congrArg Obj.cls (Option.some.inj ho)) (by simp)
  refine eqAt_mute (fun prog w E Q q => ?_) hd.ty (⟨_, ho, rfl⟩ : s.TypeIs (.ref l) "list") (by decide) F.sub_list_dict F.slot_dict_eq F.slot_list_eq_refl (dict_mute hd ⟨_, ho, rfl⟩ F.sub_list_dict) (fun _ _ _ _ q => call_meets F.slot_list_eq_refl ⟨_, ho, rfl⟩ F.entry_list_eq (F.args_list_eq_2 _ _) (no_lst l its n d2 s2) ⟨ho, e, q⟩) (fun _ _ _ _ q => SeqAt.wpAny_isSame_ref_other' ne e ho (by simp) q) hu
  unfold eqBool
  exact wpAny_holding (wpAny_ite_split (fun hab => absurd (by injection eq_of_beq hab) ne) fun _ => wpAny_bind q)
theorem ea_tup_d {l : Addr} {its : Array Value} (hl : s.heap.IsTuple l its) : SeqAt.EqAt A s (.ref l) (.ref d) false := by
  obtain ⟨dd, es, ep, sl, e⟩ := id hd
  obtain ⟨⟨cls, d2, data, s2⟩, ho, hc, n, hdt⟩ := hl
  cases hc
  cases hdt
  have ne : l ≠ d := fun z => by rw [z, e] at ho; exact absurd (congrArg Obj.cls (Option.some.inj ho)) (by simp)
  refine eqAt_mute (fun prog w E Q q => ?_) (⟨_, ho, rfl⟩ : s.TypeIs (.ref l) "tuple") hd.ty (by decide) F.sub_dict_tuple F.slot_tuple_eq F.slot_dict_eq_refl (fun _ _ _ _ q => call_meets F.slot_tuple_eq ⟨_, ho, rfl⟩ F.entry_tuple_eq (F.args_tuple_eq_2 _ _) (no_tup l its n d2 s2) ⟨ho, e, q⟩) (dict_mute hd ⟨_, ho, rfl⟩ F.sub_tuple_dict) (fun _ _ _ _ q => SeqAt.wpAny_isSame_ref_other' ne ho e (by simp) q) hu
  unfold eqBool
  exact wpAny_holding (wpAny_ite_split (fun hab => absurd (by injection eq_of_beq hab) ne) fun _ => wpAny_bind q)
theorem ea_d_tup {l : Addr} {its : Array Value} (hl : s.heap.IsTuple l its) : SeqAt.EqAt A s (.ref d) (.ref l) false := by
  obtain ⟨dd, es, ep, sl, e⟩ := id hd
  obtain ⟨⟨cls, d2, data, s2⟩, ho, hc, n, hdt⟩ := hl
  cases hc
  cases hdt
  have ne : d ≠ l := fun z => by rw [← z, e] at ho; exact absurd (congrArg Obj.cls (Option.some.inj ho)) (by simp)
  refine eqAt_mute (fun prog w E Q q => ?_) hd.ty (⟨_, ho, rfl⟩ : s.TypeIs (.ref l) "tuple") (by decide) F.sub_tuple_dict F.slot_dict_eq F.slot_tuple_eq_refl (dict_mute hd ⟨_, ho, rfl⟩ F.sub_tuple_dict) (fun _ _ _ _ q => call_meets F.slot_tuple_eq_refl ⟨_, ho, rfl⟩ F.entry_tuple_eq (F.args_tuple_eq_2 _ _) (no_tup l its n d2 s2) ⟨ho, e, q⟩) (fun prog w E Q q => ?_) hu
  · unfold eqBool
    exact wpAny_holding (wpAny_ite_split (fun hab => absurd (by injection eq_of_beq hab) ne) fun _ => wpAny_bind q)
  · exact PySem.wpAny_isSame_ref_other ne e ho (by simp) q
end


theorem ea_kinds {s : Shared} {A : Around} (hu : A.units < cLine) {v u : Value} {i j : Nat} (h1 : KD s v i) (h2 : KD s u j) (ne : i ≠ j) (nb : ¬ (i = 1 ∧ j = 2)) (nb' : ¬ (i = 2 ∧ j = 1)) : SeqAt.EqAt A s v u false :=
  match h1, h2 with
  | .non, .non => absurd rfl ne
  | .non, .bl b2 => SeqAt.EqAt.none_bool b2
  | .non, .int b2 t2 => SeqAt.EqAt.none_int b2 t2
  | .non, .str b2 t2 => SeqAt.EqAt.none_str b2 t2
  | .non, .lst q2 => SeqAt.EqAt.none_list q2 hu
  | .non, .tup q2 => SeqAt.EqAt.none_tuple q2 hu
  | .non, .dic q2 => ea_non_d q2 hu 
  | .bl b1, .non => SeqAt.EqAt.bool_none b1
  | .bl b1, .bl b2 => absurd rfl ne
  | .bl b1, .int b2 t2 => absurd ⟨rfl, rfl⟩ nb
  | .bl b1, .str b2 t2 => SeqAt.EqAt.bool_str b1 b2 t2
  | .bl b1, .lst q2 => SeqAt.EqAt.bool_list b1 q2 hu
  | .bl b1, .tup q2 => SeqAt.EqAt.bool_tuple b1 q2 hu
  | .bl b1, .dic q2 => ea_bl_d q2 hu b1
  | .int b1 t1, .non => SeqAt.EqAt.int_none b1 t1
  | .int b1 t1, .bl b2 => absurd ⟨rfl, rfl⟩ nb'
  | .int b1 t1, .int b2 t2 => absurd rfl ne
  | .int b1 t1, .str b2 t2 => SeqAt.EqAt.int_str b1 t1 b2 t2
  | .int b1 t1, .lst q2 => SeqAt.EqAt.int_list b1 t1 q2 hu
  | .int b1 t1, .tup q2 => SeqAt.EqAt.int_tuple b1 t1 q2 hu
  | .int b1 t1, .dic q2 => ea_int_d q2 hu b1 t1
  | .str b1 t1, .non => SeqAt.EqAt.str_none b1 t1
  | .str b1 t1, .bl b2 => SeqAt.EqAt.str_bool b1 t1 b2
  | .str b1 t1, .int b2 t2 => SeqAt.EqAt.str_int b1 t1 b2 t2
  | .str b1 t1, .str b2 t2 => absurd rfl ne
  | .str b1 t1, .lst q2 => SeqAt.EqAt.str_list b1 t1 q2 hu
  | .str b1 t1, .tup q2 => SeqAt.EqAt.str_tuple b1 t1 q2 hu
  | .str b1 t1, .dic q2 => ea_str_d q2 hu b1 t1
  | .lst q1, .non => SeqAt.EqAt.list_none q1 hu
  | .lst q1, .bl b2 => SeqAt.EqAt.list_bool b2 q1 hu
  | .lst q1, .int b2 t2 => SeqAt.EqAt.list_int b2 t2 q1 hu
  | .lst q1, .str b2 t2 => SeqAt.EqAt.list_str b2 t2 q1 hu
  | .lst q1, .lst q2 => absurd rfl ne
  | .lst q1, .tup q2 => SeqAt.EqAt.list_tuple q1 q2 hu
  | .lst q1, .dic q2 => ea_lst_d q2 hu q1
  | .tup q1, .non => SeqAt.EqAt.tuple_none q1 hu
  | .tup q1, .bl b2 => SeqAt.EqAt.tuple_bool b2 q1 hu
  | .tup q1, .int b2 t2 => SeqAt.EqAt.tuple_int b2 t2 q1 hu
  | .tup q1, .str b2 t2 => SeqAt.EqAt.tuple_str b2 t2 q1 hu
  | .tup q1, .lst q2 => SeqAt.EqAt.tuple_list q1 q2 hu
  | .tup q1, .tup q2 => absurd rfl ne
  | .tup q1, .dic q2 => ea_tup_d q2 hu q1
  | .dic q1, .non => ea_d_non q1 hu 
  | .dic q1, .bl b2 => ea_d_bl q1 hu b2
  | .dic q1, .int b2 t2 => ea_d_int q1 hu b2 t2
  | .dic q1, .str b2 t2 => ea_d_str q1 hu b2 t2
  | .dic q1, .lst q2 => ea_d_lst q1 hu q2
  | .dic q1, .tup q2 => ea_d_tup q1 hu q2
  | .dic q1, .dic q2 => absurd rfl ne
def eqFs (f : Dat → Dat → Option Bool) : List Dat → List Dat → Option Bool
  | [], [] => some true
  | a :: as, b :: bs => (f a b).bind fun x => (eqFs f as bs).map fun y => x && y
  | _, _ => some false
def kdT : Dat → Option Nat
  | .non => some 0
  | .bl _ => some 1
  | .int _ => some 2
  | .str _ => some 3
  | .lst _ => some 4
  | .tup _ => some 5
  | .dic _ _ => some 6
  | _ => none
def eqF : Nat → Dat → Dat → Option Bool
  | 0, _, _ => none
  | n + 1, d, e => match d, e with
    | .non, .non => some true
    | .bl a, .bl b => some (a == b)
    | .int a, .int b => some (a == b)
    | .str a, .str b => some (a == b)
    | .bl a, .int b => some ((if a then 1 else 0) == b)
    | .int a, .bl b => some (a == (if b then 1 else 0))
    | .tup xs, .tup ys => eqFs (eqF n) xs ys
    | .lst xs, .lst ys => eqFs (eqF n) xs ys
    | d, e => (kdT d).bind fun i => (kdT e).bind fun j => if i = j then none else some false
section
variable {X : Cx} {pins : List (Addr × Obj)} {σ : L2.St} {H : Hp} {s : Shared} {Z : Cz} {p : Pl}
theorem kd_of (I : Inv X pins σ H s) (hK : X.K = Z.K) {d : Dat} {i : Nat} {x : V} {v : Value} (h : IsD Z H p x d) (e : kdT d = some i) (r : RelV x v) : KD s v i := by
  cases d with
  | non => cases e; rw [isD_non.mp h] at r; cases r; exact .non
  | bl b => cases e; rw [isD_bl.mp h] at r; cases r; exact .bl b
  | int b => cases e; rw [isD_int.mp h] at r; obtain ⟨t, rfl⟩ := r; exact .int b t
  | str b => cases e; rw [isD_str.mp h] at r; obtain ⟨t, rfl⟩ := r; exact .str b t
  | lst ds =>
    cases e
    obtain ⟨a, vs, rfl, h1, _⟩ := isD_lst.mp h
    cases (show v = Value.ref a from r)
    have h1 := h1.sq
    rw [← hK] at h1
    obtain ⟨its, _, q, _⟩ := I.list h1
    exact .lst q.isList
  | tup ds =>
    cases e
    obtain ⟨a, vs, rfl, h1, _⟩ := isD_tup.mp h
    cases (show v = Value.ref a from r)
    have h1 := h1.sq
    rw [← hK] at h1
    obtain ⟨its, _, q, _⟩ := I.tuple h1
    exact .tup q
  | dic ks ds =>
    cases e
    obtain ⟨a, vs, rfl, h1, _⟩ := isD_dic.mp h
    cases (show v = Value.ref a from r)
    obtain ⟨_, _, ws, _, o, es, ep, ho, hx, hdt, _⟩ := dk_of I.hok h1.1
    refine .dic ?_
    obtain ⟨cls, dd, data, sl⟩ := o
    have hc : cls = .type "dict" := hx.1
    cases hc
    cases hdt
    exact ⟨dd, es, ep, sl, ho⟩
  | _ => cases e
theorem eqFs_same (I : Inv X pins σ H s) (hK : X.K = Z.K) {f : Dat → Dat → Option Bool} (ih : ∀ (d e : Dat) (x : V) (c : Bool), IsD Z H p x d → IsD Z H p x e → f d e = some c → c = true) : ∀ {ds es : List Dat} {vs : List V} {c : Bool}, IsDs Z H p vs ds → IsDs Z H p vs es → eqFs f ds es = some c → c = true
  | [], [], _, _, _, _, e => by cases e; rfl
  | [], _ :: _, vs, _, h, g, _ => by rw [isDs_nil.mp h] at g; obtain ⟨_, _, z, _⟩ := isDs_cons.mp g; cases z
  | _ :: _, [], vs, _, h, g, _ => by rw [isDs_nil.mp g] at h; obtain ⟨_, _, z, _⟩ := isDs_cons.mp h; cases z
  | a :: ds, b :: es, vs, c, h, g, e => by
    obtain ⟨v, r, rfl, h1, h2⟩ := isDs_cons.mp h
    obtain ⟨v', r', z, g1, g2⟩ := isDs_cons.mp g
    cases z
    unfold eqFs at e
    cases q1 : f a b with
    | none => rw [q1] at e; cases e
    | some x =>
      cases q2 : eqFs f ds es with
      | none => rw [q1, q2] at e; cases e
      | some y =>
        rw [q1, q2] at e
        cases e
        rw [ih _ _ _ _ h1 g1 q1, eqFs_same I hK ih h2 g2 q2]
        rfl
end
end Zd

namespace Zd
open PySem PySem.Spec PyProof.Rows L2
section
variable {X : Cx} {pins : List (Addr × Obj)} {σ : L2.St} {H : Hp} {s : Shared} {Z : Cz} {p : Pl}
theorem ref_vals {vs us : List V} (h : vs = us) : vs = us := h
theorem eqF_same (I : Inv X pins σ H s) (hK : X.K = Z.K) : ∀ (n : Nat) (d e : Dat) (x : V) (c : Bool), IsD Z H p x d → IsD Z H p x e → eqF n d e = some c → c = true
  | 0, _, _, _, _, _, _, q => by cases q
  | n + 1, d, e, x, c, h, g, q => by
    cases d with
    | non =>
      have hx := isD_non.mp h
      subst hx
      cases e with
      | non => cases q; rfl
      | bl _ => cases isD_bl.mp g
      | int _ => cases isD_int.mp g
      | str _ => cases isD_str.mp g
      | lst _ => obtain ⟨_, _, z, _⟩ := isD_lst.mp g; cases z
      | tup _ => obtain ⟨_, _, z, _⟩ := isD_tup.mp g; cases z
      | dic _ _ => obtain ⟨_, _, z, _⟩ := isD_dic.mp g; cases z
      | _ => cases q
    | bl b =>
      have hx := isD_bl.mp h
      subst hx
      cases e with
      | bl _ => cases isD_bl.mp g; cases q; exact beq_self_eq_true _
      | non => cases isD_non.mp g
      | int _ => cases isD_int.mp g
      | str _ => cases isD_str.mp g
      | lst _ => obtain ⟨_, _, z, _⟩ := isD_lst.mp g; cases z
      | tup _ => obtain ⟨_, _, z, _⟩ := isD_tup.mp g; cases z
      | dic _ _ => obtain ⟨_, _, z, _⟩ := isD_dic.mp g; cases z
      | _ => cases q
    | int b =>
      have hx := isD_int.mp h
      subst hx
      cases e with
      | int _ => cases isD_int.mp g; cases q; exact beq_self_eq_true _
      | non => cases isD_non.mp g
      | bl _ => cases isD_bl.mp g
      | str _ => cases isD_str.mp g
      | lst _ => obtain ⟨_, _, z, _⟩ := isD_lst.mp g; cases z
      | tup _ => obtain ⟨_, _, z, _⟩ := isD_tup.mp g; cases z
      | dic _ _ => obtain ⟨_, _, z, _⟩ := isD_dic.mp g; cases z
      | _ => cases q
    | str b =>
      have hx := isD_str.mp h
      subst hx
      cases e with
      | str _ => cases isD_str.mp g; cases q; exact beq_self_eq_true _
      | non => cases isD_non.mp g
      | bl _ => cases isD_bl.mp g
      | int _ => cases isD_int.mp g
      | lst _ => obtain ⟨_, _, z, _⟩ := isD_lst.mp g; cases z
      | tup _ => obtain ⟨_, _, z, _⟩ := isD_tup.mp g; cases z
      | dic _ _ => obtain ⟨_, _, z, _⟩ := isD_dic.mp g; cases z
      | _ => cases q
    | tup ds =>
      obtain ⟨a, vs, rfl, h1, h2⟩ := isD_tup.mp h
      have h1 := h1.sq
      rw [← hK] at h1
      cases e with
      | tup es =>
        obtain ⟨b, ws, z, g1, g2⟩ := isD_tup.mp g
        cases z
        have g1 := g1.sq
        rw [← hK] at g1
        rw [I.tuple_inj g1 h1] at g2
        exact eqFs_same I hK (fun d e x c => eqF_same I hK n d e x c) h2 g2 q
      | lst es =>
        obtain ⟨b, ws, z, g1, g2⟩ := isD_lst.mp g
        cases z
        have g1 := g1.sq
        rw [← hK] at g1
        obtain ⟨i1, _, q1, _⟩ := I.list g1
        obtain ⟨i2, _, q2, _⟩ := I.tuple h1
        exact absurd rfl (SeqAt.ne_of_list_tuple q1.isList q2)
      | dic ks es =>
        have k1 := kd_of I hK g rfl (rfl : RelV (.ref a) (.ref a))
        have k2 := kd_of I hK h rfl (rfl : RelV (.ref a) (.ref a))
        cases k1 with
        | dic hd =>
          cases k2 with
          | tup ht =>
            obtain ⟨_, _, _, _, e1⟩ := hd
            obtain ⟨o, e2, c2, _⟩ := ht
            rw [e1] at e2
            cases e2
            exact absurd c2 (by simp)
      | non => cases isD_non.mp g
      | bl _ => cases isD_bl.mp g
      | int _ => cases isD_int.mp g
      | str _ => cases isD_str.mp g
      | _ => cases q
    | lst ds =>
      obtain ⟨a, vs, rfl, h1, h2⟩ := isD_lst.mp h
      have h1 := h1.sq
      rw [← hK] at h1
      cases e with
      | lst es =>
        obtain ⟨b, ws, z, g1, g2⟩ := isD_lst.mp g
        cases z
        have g1 := g1.sq
        rw [← hK] at g1
        rw [I.list_inj g1 h1] at g2
        exact eqFs_same I hK (fun d e x c => eqF_same I hK n d e x c) h2 g2 q
      | tup es =>
        obtain ⟨b, ws, z, g1, g2⟩ := isD_tup.mp g
        cases z
        have g1 := g1.sq
        rw [← hK] at g1
        obtain ⟨i1, _, q1, _⟩ := I.list h1
        obtain ⟨i2, _, q2, _⟩ := I.tuple g1
        exact absurd rfl (SeqAt.ne_of_list_tuple q1.isList q2)
      | dic ks es =>
        have k1 := kd_of I hK g rfl (rfl : RelV (.ref a) (.ref a))
        have k2 := kd_of I hK h rfl (rfl : RelV (.ref a) (.ref a))
        cases k1 with
        | dic hd =>
          cases k2 with
          | lst ht =>
            obtain ⟨_, _, _, _, e1⟩ := hd
            obtain ⟨o, e2, c2, _⟩ := ht
            rw [e1] at e2
            cases e2
            exact absurd c2 (by simp)
      | non => cases isD_non.mp g
      | bl _ => cases isD_bl.mp g
      | int _ => cases isD_int.mp g
      | str _ => cases isD_str.mp g
      | _ => cases q
    | dic ks ds =>
      obtain ⟨a, vs, rfl, h1, _⟩ := isD_dic.mp h
      have kh := kd_of I hK h rfl (rfl : RelV (.ref a) (.ref a))
      cases e with
      | tup es =>
        have k2 := kd_of I hK g rfl (rfl : RelV (.ref a) (.ref a))
        cases kh with
        | dic hd =>
          cases k2 with
          | tup ht =>
            obtain ⟨_, _, _, _, e1⟩ := hd
            obtain ⟨o, e2, c2, _⟩ := ht
            rw [e1] at e2
            cases e2
            exact absurd c2 (by simp)
      | lst es =>
        have k2 := kd_of I hK g rfl (rfl : RelV (.ref a) (.ref a))
        cases kh with
        | dic hd =>
          cases k2 with
          | lst ht =>
            obtain ⟨_, _, _, _, e1⟩ := hd
            obtain ⟨o, e2, c2, _⟩ := ht
            rw [e1] at e2
            cases e2
            exact absurd c2 (by simp)
      | non => cases isD_non.mp g
      | bl _ => cases isD_bl.mp g
      | int _ => cases isD_int.mp g
      | str _ => cases isD_str.mp g
      | _ => cases q
    | _ => cases e <;> cases q
end
end Zd

namespace Zd
open PySem PySem.Spec PyProof.Rows L2
def evF (f : Dat → Dat → Option Bool) (ds es : List Dat) (j : Nat) : Bool := match ds[j]?, es[j]? with
  | some d, some e => (f d e).getD false
  | _, _ => true
theorem eqFs_all {f : Dat → Dat → Option Bool} : ∀ {ds es : List Dat} {c : Bool}, eqFs f ds es = some c → (∀ (j : Nat) (d e : Dat), ds[j]? = some d → es[j]? = some e → f d e = some (evF f ds es j)) ∧ c = ((List.range (min ds.length es.length)).all (evF f ds es) && ds.length == es.length)
  | [], [], c, h => by cases h; exact ⟨fun j d e z => by simp at z, rfl⟩
  | [], _ :: _, c, h => by cases h; exact ⟨fun j d e z => by simp at z, rfl⟩
  | _ :: _, [], c, h => by cases h; exact ⟨fun j d e _ z => by simp at z, rfl⟩
  | a :: ds, b :: es, c, h => by
    unfold eqFs at h
    cases q1 : f a b with
    | none => rw [q1] at h; cases h
    | some x =>
      cases q2 : eqFs f ds es with
      | none => rw [q1, q2] at h; cases h
      | some y =>
        rw [q1, q2] at h
        cases h
        obtain ⟨k1, k2⟩ := eqFs_all q2
        refine ⟨fun j d e z1 z2 => ?_, ?_⟩
        · cases j with
          | zero =>
            simp only [List.getElem?_cons_zero, Option.some.injEq] at z1 z2
            subst z1 z2
            unfold evF
            simp only [List.getElem?_cons_zero]
            rw [q1]
            rfl
          | succ j =>
            simp only [List.getElem?_cons_succ] at z1 z2
            have := k1 j d e z1 z2
            unfold evF at this ⊢
            simp only [List.getElem?_cons_succ]
            exact this
        · rw [List.length_cons, List.length_cons, Nat.add_min_add_right, List.range_succ_eq_map, List.all_cons, List.all_map, k2]
          have e0 : evF f (a :: ds) (b :: es) 0 = x := by unfold evF; simp only [List.getElem?_cons_zero]; rw [q1]; rfl
          have e1 : (evF f (a :: ds) (b :: es) ∘ Nat.succ) = evF f ds es := by funext j; show evF f (a :: ds) (b :: es) (j + 1) = _; unfold evF; simp only [List.getElem?_cons_succ]
          rw [e0, e1, Bool.and_assoc]
          congr 2
          cases hh : ds.length == es.length with
          | true => rw [beq_iff_eq] at hh; rw [hh]; simp
          | false => symm; rw [beq_eq_false_iff_ne] at hh ⊢; omega
section
variable {X : Cx} {pins : List (Addr × Obj)} {σ : L2.St} {H : Hp} {s : Shared} {Z : Cz} {p : Pl}
theorem item_of {vs : List V} {its : List Value} {ds : List Dat} (rv : Vals vs its) (h : IsDs Z H p vs ds) {j : Nat} (lt : j < its.length) : ∃ x d, RelV x its[j] ∧ ds[j]? = some d ∧ IsD Z H p x d := by
  have l1 := rv.length
  have l2 := h.len
  have lt2 : j < ds.length := by omega
  obtain ⟨x, g1, g2⟩ := h.get (List.getElem?_eq_getElem lt2)
  obtain ⟨u, k1, k2⟩ := rv.get g1
  rw [List.getElem?_eq_getElem lt] at k1
  cases k1
  exact ⟨x, _, k2, List.getElem?_eq_getElem lt2, g2⟩
theorem tup_at (I : Inv X pins σ H s) (hK : X.K = Z.K) {f : Dat → Dat → Option Bool} {A : Around} (hu : A.units < cLine) (ih : ∀ (d e : Dat) (c : Bool) (x y : V) (v u : Value), f d e = some c → IsD Z H p x d → IsD Z H p y e → RelV x v → RelV y u → SeqAt.EqAt A.in1 s v u c) {ds es : List Dat} {a b : Addr} {vs ws : List V} {c : Bool} (ha : SqT X.K H a vs) (hb : SqT X.K H b ws) (h1 : IsDs Z H p vs ds) (h2 : IsDs Z H p ws es) (q : eqFs f ds es = some c) : SeqAt.RcAt A s (.ref a) (.ref b) c := by
  obtain ⟨i1, r1, p1, _⟩ := I.tuple ha
  obtain ⟨i2, r2, p2, _⟩ := I.tuple hb
  obtain ⟨k1, k2⟩ := eqFs_all q
  have l1 : i1.toArray.size = ds.length := by rw [List.size_toArray, ← r1.length, h1.len]
  have l2 : i2.toArray.size = es.length := by rw [List.size_toArray, ← r2.length, h2.len]
  rw [k2, ← l1, ← l2]
  refine SeqAt.RcAt.tuples p1 p2 hu fun j j1 j2 => ?_
  obtain ⟨x, d, g1, g2, g3⟩ := item_of r1 h1 (by simpa using j1)
  obtain ⟨y, e, g4, g5, g6⟩ := item_of r2 h2 (by simpa using j2)
  exact ih d e _ x y _ _ (k1 j d e g2 g5) g3 g6 (by simpa using g1) (by simpa using g4)
theorem lst_at (I : Inv X pins σ H s) (hK : X.K = Z.K) {f : Dat → Dat → Option Bool} {A : Around} (hu : A.units < cLine) (ih : ∀ (d e : Dat) (c : Bool) (x y : V) (v u : Value), f d e = some c → IsD Z H p x d → IsD Z H p y e → RelV x v → RelV y u → SeqAt.EqAt A.in1 s v u c) {ds es : List Dat} {a b : Addr} {vs ws : List V} {c : Bool} (ha : SqL X.K H a vs) (hb : SqL X.K H b ws) (h1 : IsDs Z H p vs ds) (h2 : IsDs Z H p ws es) (q : eqFs f ds es = some c) : SeqAt.RcAt A s (.ref a) (.ref b) c := by
  obtain ⟨i1, r1, p1, _⟩ := I.list ha
  obtain ⟨i2, r2, p2, _⟩ := I.list hb
  obtain ⟨k1, k2⟩ := eqFs_all q
  have l1 : i1.toArray.size = ds.length := by rw [List.size_toArray, ← r1.length, h1.len]
  have l2 : i2.toArray.size = es.length := by rw [List.size_toArray, ← r2.length, h2.len]
  by_cases sz : ds.length = es.length
  · have e : c = (List.range i1.toArray.size).all (evF f ds es) := by rw [k2, l1, sz, Nat.min_self]; simp
    rw [e]
    refine SeqAt.RcAt.lists p1.isList p2.isList (by rw [l1, l2, sz]) hu fun j j1 j2 => ?_
    obtain ⟨x, d, g1, g2, g3⟩ := item_of r1 h1 (by simpa using j1)
    obtain ⟨y, e, g4, g5, g6⟩ := item_of r2 h2 (by simpa using j2)
    exact ih d e _ x y _ _ (k1 j d e g2 g5) g3 g6 (by simpa using g1) (by simpa using g4)
  · have e : c = false := by rw [k2, beq_eq_false_iff_ne.mpr sz, Bool.and_false]
    rw [e]
    exact SeqAt.RcAt.lists_lengths p1.isList p2.isList (by rw [l1, l2]; simpa using sz) hu
theorem eqF_at (I : Inv X pins σ H s) (hK : X.K = Z.K) : ∀ (n : Nat) (A : Around), A.units + n < cLine → ∀ (d e : Dat) (c : Bool) (x y : V) (v u : Value), eqF n d e = some c → IsD Z H p x d → IsD Z H p y e → RelV x v → RelV y u → SeqAt.EqAt A s v u c
  | 0, _, _, _, _, _, _, _, _, _, q, _, _, _, _ => by cases q
  | n + 1, A, hu, d, e, c, x, y, v, u, q, hx, hy, rx, ry => by
    have hu1 : A.units < cLine := by omega
    have kinds : ∀ i j, kdT d = some i → kdT e = some j → i ≠ j → ¬ (i = 1 ∧ j = 2) → ¬ (i = 2 ∧ j = 1) → SeqAt.EqAt A s v u false := fun i j h1 h2 n1 n2 n3 => ea_kinds hu1 (kd_of I hK hx h1 rx) (kd_of I hK hy h2 ry) n1 n2 n3
    have ih := fun (d e : Dat) (c : Bool) (x y : V) (v u : Value) => eqF_at I hK n A.in1 (by show A.units + 1 + n < cLine; omega) d e c x y v u
    by_cases tt : ∃ ds es, d = .tup ds ∧ e = .tup es
    · obtain ⟨ds, es, rfl, rfl⟩ := tt
      have same := eqF_same (p := p) I hK (n + 1) (.tup ds) (.tup es)
      obtain ⟨a, vs, rfl, h1, h2⟩ := isD_tup.mp hx
      obtain ⟨b, ws, rfl, g1, g2⟩ := isD_tup.mp hy
      cases (show v = Value.ref a from rx)
      cases (show u = Value.ref b from ry)
      by_cases ab : a = b
      · subst ab
        rw [same _ _ hx hy q]
        exact SeqAt.EqAt.same _
      · have h1 := h1.sq
        have g1 := g1.sq
        rw [← hK] at h1 g1
        exact .of_refs ab (tup_at I hK hu1 ih h1 g1 h2 g2 q)
    by_cases ll : ∃ ds es, d = .lst ds ∧ e = .lst es
    · obtain ⟨ds, es, rfl, rfl⟩ := ll
      have same := eqF_same (p := p) I hK (n + 1) (.lst ds) (.lst es)
      obtain ⟨a, vs, rfl, h1, h2⟩ := isD_lst.mp hx
      obtain ⟨b, ws, rfl, g1, g2⟩ := isD_lst.mp hy
      cases (show v = Value.ref a from rx)
      cases (show u = Value.ref b from ry)
      by_cases ab : a = b
      · subst ab
        rw [same _ _ hx hy q]
        exact SeqAt.EqAt.same _
      · have h1 := h1.sq
        have g1 := g1.sq
        rw [← hK] at h1 g1
        exact .of_refs ab (lst_at I hK hu1 ih h1 g1 h2 g2 q)
    cases d with
    | non =>
      cases e with
      | non => cases q; have e1 := isD_non.mp hx; have e2 := isD_non.mp hy; subst e1 e2; cases rx; cases ry; exact .same _
      | _ => first | (cases q; done) | (cases q; exact kinds _ _ rfl rfl (by decide) (by decide) (by decide))
    | bl a =>
      have e1 := isD_bl.mp hx; subst e1; cases rx
      cases e with
      | bl b => cases q; have e2 := isD_bl.mp hy; subst e2; cases ry; exact .bool_bool a b
      | int b => cases q; have e2 := isD_int.mp hy; subst e2; obtain ⟨t, rfl⟩ := ry; exact .bool_int a b t
      | _ => first | (cases q; done) | (cases q; exact kinds _ _ rfl rfl (by decide) (by decide) (by decide))
    | int a =>
      have e1 := isD_int.mp hx; subst e1; obtain ⟨t, rfl⟩ := rx
      cases e with
      | int b => cases q; have e2 := isD_int.mp hy; subst e2; obtain ⟨t2, rfl⟩ := ry; exact .int_int a t b t2
      | bl b => cases q; have e2 := isD_bl.mp hy; subst e2; cases ry; exact .int_bool a t b
      | _ => first | (cases q; done) | (cases q; exact kinds _ _ rfl rfl (by decide) (by decide) (by decide))
    | str a =>
      have e1 := isD_str.mp hx; subst e1; obtain ⟨t, rfl⟩ := rx
      cases e with
      | str b => cases q; have e2 := isD_str.mp hy; subst e2; obtain ⟨t2, rfl⟩ := ry; exact .str_str a t b t2
      | _ => first | (cases q; done) | (cases q; exact kinds _ _ rfl rfl (by decide) (by decide) (by decide))
    | tup ds =>
      cases e with
      | tup es => exact absurd ⟨ds, es, rfl, rfl⟩ tt
      | _ => first | (cases q; done) | (cases q; exact kinds _ _ rfl rfl (by decide) (by decide) (by decide))
    | lst ds =>
      cases e with
      | lst es => exact absurd ⟨ds, es, rfl, rfl⟩ ll
      | _ => first | (cases q; done) | (cases q; exact kinds _ _ rfl rfl (by decide) (by decide) (by decide))
    | dic ks ds =>
      cases e with
      | _ => first | (cases q; done) | (cases q; exact kinds _ _ rfl rfl (by decide) (by decide) (by decide))
    | _ => cases e <;> cases q
end
/-! ### the operations -/
/-- tuples -/
def rEqT (Z : Cz) (neg : Bool) : R2 := fun x y H Q => ∃ (p : Pl) (ds es : List Dat) (c : Bool), IsD Z H p x (.tup ds) ∧ IsD Z H p y (.tup es) ∧ eqFs (eqF 60) ds es = some c ∧ Q (.bl (neg != c)) H
theorem op_eqT {X : Cx} {Z : Cz} (hu : X.A.units + 64 < cLine) (hK : X.K = Z.K) : OpR X (compareOp .Eq) (rEqT Z false) := by
  intro pins s σ H x y v u Q I rx ry ⟨p, ds, es, c, hx, hy, q, k⟩
  rw [Bool.false_bne] at k
  obtain ⟨a, vs, rfl, h1, h2⟩ := isD_tup.mp hx
  obtain ⟨b, ws, rfl, g1, g2⟩ := isD_tup.mp hy
  cases (show v = Value.ref a from rx)
  cases (show u = Value.ref b from ry)
  have h1 := h1.sq
  have g1 := g1.sq
  rw [← hK] at h1 g1
  exact tup_at I hK (by omega) (fun d e c x y v u => eqF_at I hK 60 X.A.in1 (by show X.A.units + 1 + 60 < cLine; omega) d e c x y v u) h1 g1 h2 g2 q X.prog X.w _ _ ⟨.bl c, H, I, rfl, k⟩
def dEqT (d e : Dat) : M Dat := match d, e with
  | .tup ds, .tup es => M.opt (eqFs (eqF 60) ds es) >>= fun c => pure (.bl (false != c))
  | _, _ => M.no
theorem r_eqT {Z : Cz} : JR Z (IsD Z) (IsD Z) (IsD Z) (rEqT Z false) dEqT := fun x y d e Er H p S Q hx hy s q => by
  unfold dEqT at q
  split at q
  · obtain ⟨c, e, q⟩ := q.opt
    exact ⟨p, _, _, c, hx, hy, e, q.pure xE s _ (isD_bl.mpr rfl)⟩
  · exact (bad_no (S := S) q).elim
/-- x in texts -/
def isS (w : Dat) (xs : List Str) : Bool := match w with
  | .str y => xs.any fun z => z == y
  | _ => false
def rInS (Z : Cz) (neg : Bool) : R2 := fun x y H Q => ∃ (p : Pl) (a : Addr) (d : Dat) (i : Nat) (xs : List Str), y = .ref a ∧ (SqT Z.K H a (xs.map V.str) ∨ SqL Z.K H a (xs.map V.str)) ∧ IsD Z H p x d ∧ kdT d = some i ∧ Q (.bl (neg != isS d xs)) H
def tokS (y : Value) (d : Dat) : Bool := match y, d with
  | .str z _, .str w => z == w
  | _, _ => false
theorem any_tok {d : Dat} : ∀ {xs : List Str} {us : List Value}, Vals (xs.map V.str) us → us.toArray.any (fun y => tokS y d) = isS d xs := by
  intro xs us r
  rw [List.any_toArray]
  induction xs generalizing us with
  | nil => cases r; cases d <;> rfl
  | cons x xs ih =>
    cases r with
    | cons h t =>
      obtain ⟨k, rfl⟩ := h
      rw [List.any_cons, ih t]
      cases d <;> first | rfl | simp [isS, tokS]
theorem tok_at {X : Cx} {pins : List (Addr × Obj)} {σ : L2.St} {H : Hp} {s : Shared} {Z : Cz} {p : Pl} (I : Inv X pins σ H s) (hK : X.K = Z.K) {A : Around} (hu : A.units < cLine) {d : Dat} {i : Nat} {x : V} {v : Value} (hx : IsD Z H p x d) (hi : kdT d = some i) (rx : RelV x v) {z : Str} {t : Tok} : SeqAt.EqAt A s (.str z t) v (tokS (.str z t) d) := by
  have k := kd_of I hK hx hi rx
  cases d with
  | str w =>
    have e1 := isD_str.mp hx
    subst e1
    obtain ⟨t2, rfl⟩ := rx
    exact .str_str z t w t2
  | _ => first | (cases hi; done) | (cases hi; exact ea_kinds hu (.str z t) k (by decide) (by decide) (by decide))
theorem op_inS {X : Cx} {Z : Cz} {neg : Bool} (hu : X.A.units + 70 < cLine) (hK : X.K = Z.K) : OpR X (compareOp (if neg then .NotIn else .In)) (rInS Z neg) := by
  intro pins s σ H x y v u Q I rx ry ⟨p, a, d, i, xs, ey, hy, hx, hi, k⟩
  subst ey
  cases (show u = Value.ref a from ry)
  have at_ : ∀ {us : List Value}, Vals (xs.map V.str) us → ∀ y, y ∈ us.toArray → SeqAt.EqAt X.A.in1 s y v (tokS y d) := fun {us} r y hm => by
    have hm : y ∈ us := by simpa using hm
    obtain ⟨j, lt, rfl⟩ := List.getElem_of_mem hm
    have lx : j < xs.length := by have := r.length; rw [List.length_map] at this; omega
    obtain ⟨w, g1, g2⟩ := r.get (i := j) (x := .str xs[j]) (by simp [lx])
    rw [List.getElem?_eq_getElem lt] at g1
    cases g1
    obtain ⟨t, e⟩ := (show ∃ t, us[j] = Value.str xs[j] t from g2)
    rw [e]
    exact tok_at I hK (by show X.A.units + 1 < cLine; omega) hx hi rx
  rcases hy with hy | hy
  · rw [← hK] at hy
    obtain ⟨its, rv, pt, _⟩ := I.tuple hy
    cases neg with
    | false =>
      refine SeqAt.in_tupleAt (fun y => tokS y d) pt (at_ rv) ?_
      rw [any_tok rv]
      rw [Bool.false_bne] at k
      exact ⟨.bl _, H, I, rfl, k⟩
    | true =>
      refine SeqAt.notIn_tupleAt (fun y => tokS y d) pt (at_ rv) ?_
      rw [any_tok rv]
      rw [Bool.true_bne] at k
      exact ⟨.bl _, H, I, rfl, k⟩
  · rw [← hK] at hy
    obtain ⟨its, rv, pt, _⟩ := I.list hy
    cases neg with
    | false =>
      refine SeqAt.in_listAt (fun y => tokS y d) pt.isList (at_ rv) ?_
      rw [any_tok rv]
      rw [Bool.false_bne] at k
      exact ⟨.bl _, H, I, rfl, k⟩
    | true =>
      refine SeqAt.notIn_listAt (fun y => tokS y d) pt.isList (at_ rv) ?_
      rw [any_tok rv]
      rw [Bool.true_bne] at k
      exact ⟨.bl _, H, I, rfl, k⟩
def dInS (neg : Bool) (d e : Dat) : M Dat := M.opt (kdT d) >>= fun _ => M.opt ((itemsOf e).bind strsD) >>= fun xs => pure (.bl (neg != isS d xs))
theorem r_inS {Z : Cz} {neg : Bool} : JR Z (IsD Z) (IsW Z) (IsD Z) (rInS Z neg) (dInS neg) := fun x y d e Er H p S Q hx hy s q => by
  obtain ⟨i, ei, q1⟩ := q.opt
  obtain ⟨xs, ex, q2⟩ := q1.opt
  clear q q1
  cases e with
  | tup ds =>
    have hy : IsD Z H p y (.tup ds) := hy
    obtain ⟨a, vs, rfl, h1, h2⟩ := isD_tup.mp hy
    have h1 := h1.sq
    rw [strsD_is h2 ex] at h1
    exact ⟨p, a, d, i, xs, rfl, .inl h1, hx, ei, q2.pure xE s _ (isD_bl.mpr rfl)⟩
  | lst ds =>
    obtain ⟨a, vs, rfl, h1, h2⟩ := hy
    have h1 := SqL.of (K := Z.K) h1.1
    rw [strsD_is h2 ex] at h1
    exact ⟨p, a, d, i, xs, rfl, .inr h1, hx, ei, q2.pure xE s _ (isD_bl.mpr rfl)⟩
  | _ => cases ex
end Zd

namespace Zd
open PySem PySem.Spec PyProof.Rows L2
/-! ### repr of trees with empty dicts, without lists -/
mutual
def toPyD : Dat → Option PyData
  | .non => some .none
  | .bl b => some (.bool b)
  | .int i => some (.int i)
  | .str x => some (.str x)
  | .tup ds => (toPysD ds).map .tuple
  | .dic ks _ => if ks.isEmpty then some (.dict []) else none
  | _ => none
def toPysD : List Dat → Option (List PyData)
  | [] => some []
  | d :: ds => (toPyD d).bind fun x => (toPysD ds).map (x :: ·)
end
section
variable {X : Cx} {pins : List (Addr × Obj)} {σ : L2.St} {H : Hp} {s : Shared} {Z : Cz} {p : Pl}
theorem d0_reads {a : Addr} (I : Inv X pins σ H s) (ea : H a = some (.dK [])) : ∃ as, Reads s.heap (.ref a) (.dict []) as ∧ sysModules ∉ as := by
  obtain ⟨_, nsm, vs, hkv, o, es, ep, ho, ⟨hc, _, _⟩, hdat, _, hp, _⟩ := (I.hok a _ ea : ObjOk X.prog X.w H s.heap a (.dK []))
  cases hkv
  have e0 : es.toList = [] := by
    generalize es.toList = l at hp
    cases hp
    rfl
  refine ⟨_, Reads.dict (as := []) (bs := []) ho hc hdat (by rw [e0]; exact .nil) (by rw [e0]; exact .nil), fun hm => ?_⟩
  rw [List.append_nil, List.mem_singleton] at hm
  rw [← hm] at nsm
  simp at nsm
mutual
theorem IsD.readsD (I : Inv X pins σ H s) (hK : X.K = Z.K) : ∀ (d : Dat) {v : V} {y : PyData} {u : Value}, IsD Z H p v d → toPyD d = some y → RelV v u → ∃ as, Reads s.heap u y as ∧ sysModules ∉ as
  | .non, _, _, _, h, e, r => by rw [toPyD] at e; cases e; rw [isD_non.mp h] at r; cases r; exact ⟨_, .none, List.not_mem_nil⟩
  | .bl b, _, _, _, h, e, r => by rw [toPyD] at e; cases e; rw [isD_bl.mp h] at r; cases r; exact ⟨_, .bool b, List.not_mem_nil⟩
  | .int i, _, _, _, h, e, r => by rw [toPyD] at e; cases e; rw [isD_int.mp h] at r; obtain ⟨t, rfl⟩ := r; exact ⟨_, .int i t, List.not_mem_nil⟩
  | .str x, _, _, _, h, e, r => by rw [toPyD] at e; cases e; rw [isD_str.mp h] at r; obtain ⟨t, rfl⟩ := r; exact ⟨_, .str x t, List.not_mem_nil⟩
  | .tup ds, _, y, u, h, e, r => by
    obtain ⟨a, vs, rfl, h1, h2⟩ := isD_tup.mp h
    cases (show u = Value.ref a from r)
    rw [toPyD] at e
    cases e2 : toPysD ds with
    | none => rw [e2] at e; cases e
    | some ys =>
      rw [e2] at e
      cases e
      have h1 := h1.sq
      rw [← hK] at h1
      obtain ⟨its, rv, ⟨o, eo, co, n, dn⟩, _⟩ := I.tuple h1
      obtain ⟨as, q, no⟩ := IsDs.readsD I hK ds h2 e2 rv
      exact ⟨_, .tuple eo co dn q, no⟩
  | .dic ks ds, _, _, u, h, e, r => by
    obtain ⟨a, vs, rfl, h1, hl, h2⟩ := isD_dic.mp h
    cases (show u = Value.ref a from r)
    rw [toPyD] at e
    cases ks with
    | nil => cases e; exact d0_reads I h1.1
    | cons _ _ => cases e
  | .lst _, _, _, _, _, e, _ => by rw [toPyD] at e <;> first | cases e | nofun
  | .obj _ _ _, _, _, _, _, e, _ => by rw [toPyD] at e <;> first | cases e | nofun
  | .loc _, _, _, _, _, e, _ => by rw [toPyD] at e <;> first | cases e | nofun
  | .ty _, _, _, _, _, e, _ => by rw [toPyD] at e <;> first | cases e | nofun
  | .cls _, _, _, _, _, e, _ => by rw [toPyD] at e <;> first | cases e | nofun
  | .scr _, _, _, _, _, e, _ => by rw [toPyD] at e <;> first | cases e | nofun
theorem IsDs.readsD (I : Inv X pins σ H s) (hK : X.K = Z.K) : ∀ (ds : List Dat) {vs : List V} {ys : List PyData} {us : List Value}, IsDs Z H p vs ds → toPysD ds = some ys → Vals vs us → ∃ as, ReadsAll s.heap us ys as ∧ sysModules ∉ as
  | [], _, _, _, h, e, r => by rw [toPysD] at e; cases e; rw [isDs_nil.mp h] at r; cases r; exact ⟨_, .nil, List.not_mem_nil⟩
  | d :: ds, _, ys, _, h, e, r => by
    obtain ⟨v, vr, rfl, h1, h2⟩ := isDs_cons.mp h
    rw [toPysD] at e
    cases e1 : toPyD d with
    | none => rw [e1] at e; cases e
    | some x =>
      cases e2 : toPysD ds with
      | none => rw [e1, e2] at e; cases e
      | some xs =>
        rw [e1, e2] at e
        cases e
        cases r with
        | cons r1 r2 =>
          obtain ⟨as, q1, n1⟩ := IsD.readsD I hK d h1 e1 r1
          obtain ⟨bs, q2, n2⟩ := IsDs.readsD I hK ds h2 e2 r2
          exact ⟨_, .cons q1 q2, fun hm => (List.mem_append.mp hm).elim n1 n2⟩
end
end
def okShowD (y : PyData) : Bool := y.showable && decide (y.depth ≤ 64) && decide (y.shown.length ≤ sizeLine)
def isRf : Dat → Bool
  | .tup _ => true
  | .dic _ _ => true
  | _ => false
theorem rf_is {H : Hp} {Z : Cz} {p : Pl} {d : Dat} {x : V} (h : IsD Z H p x d) (r : isRf d = true) : ∃ a, x = .ref a := by
  cases d with
  | tup _ => obtain ⟨a, _, e, _⟩ := isD_tup.mp h; exact ⟨a, e⟩
  | dic _ _ => obtain ⟨a, _, e, _⟩ := isD_dic.mp h; exact ⟨a, e⟩
  | _ => cases r
def rRepr2 (Z : Cz) : List V → Hp → VK → Prop := fun xs H Q => Zg.rReprD Z.K xs H Q ∨ ∃ (p : Pl) (d : Dat) (x : V) (y : PyData), xs = [x] ∧ IsD Z H p x d ∧ isRf d = true ∧ toPyD d = some y ∧ okShowD y = true ∧ Q (.str y.shown) H
theorem call_repr2 {X : Cx} {Z : Cz} (hg : Zg.Calm X.A) (hu : X.A.units + 70 < cLine) (hK : X.K = Z.K) : CallR X (.builtin "repr") (rRepr2 Z) := by
  intro pins s σ H xs us Q I r h
  rcases h with h | ⟨p, d, x, y, rfl, hx, rf, e, ok, q⟩
  · rw [← hK] at h
    exact Zg.call_reprD hg hu pins s σ H xs us Q I r h
  · unfold okShowD at ok
    simp only [Bool.and_eq_true, decide_eq_true_eq] at ok
    obtain ⟨u, rfl, rx⟩ := vals1 r
    obtain ⟨a, rfl⟩ := rf_is hx rf
    obtain ⟨as, rd, no⟩ := IsD.readsD I hK d hx e rx
    cases (show u = Value.ref a from rx)
    exact repr_of_reads' rd ok.1.1 (fun _ => no) hg (by omega) (fun _ _ e => e) (fun h' u tk hk => ⟨.str _, H, I.kept (t' := tk) hk, ⟨_, rfl⟩, q⟩) ok.2
def dRepr2 (ds : List Dat) : M Dat := match ds with
  | [d] => match toPy d with
    | some y => M.need (okShow y) >>= fun _ => pure (.str y.shown)
    | none => M.need (isRf d) >>= fun _ => M.opt (toPyD d) >>= fun y => M.need (okShowD y) >>= fun _ => pure (.str y.shown)
  | _ => M.no
theorem c_repr2 {Z : Cz} : JC Z (IsDs Z) (IsD Z) (rRepr2 Z) dRepr2 := fun x ds Er H p S Q hx s q => by
  match ds, hx, q with
  | [d], hx, q =>
    obtain ⟨v, rfl, hv⟩ := isDs_one hx
    cases e : toPy d with
    | some y =>
      have q : Post Z Er ExtE ((M.need (okShow y) >>= fun _ => pure (Dat.str y.shown)) S) H p (fun a _ H' p' => ∀ v, IsD Z H' p' v a → Q v H') := by
        unfold dRepr2 at q
        simp only [e] at q
        exact q
      obtain ⟨c, q⟩ := q.need
      unfold okShow at c
      simp only [Bool.and_eq_true, decide_eq_true_eq, Bool.not_eq_true'] at c
      refine .inl ⟨v, y, rfl, hv.dp _ e, c.1.1.1.1, c.1.1.1.2, c.1.1.2, c.1.2, fun i z => ?_, q.pure xE s _ (isD_str.mpr rfl)⟩
      subst z
      have hd := hv.dp _ e
      cases hd
      have c2 := c.2
      simp only [decide_eq_true_eq] at c2
      exact c2
    | none =>
      have q : Post Z Er ExtE ((M.need (isRf d) >>= fun _ => M.opt (toPyD d) >>= fun y => M.need (okShowD y) >>= fun _ => pure (Dat.str y.shown)) S) H p (fun a _ H' p' => ∀ v, IsD Z H' p' v a → Q v H') := by
        unfold dRepr2 at q
        simp only [e] at q
        exact q
      obtain ⟨c, q⟩ := q.need
      obtain ⟨y, ey, q⟩ := q.opt
      obtain ⟨c2, q⟩ := q.need
      exact .inr ⟨p, d, v, y, rfl, hv, c, ey, c2, q.pure xE s _ (isD_str.mpr rfl)⟩
  | [], _, q => exact (bad_no (S := S) q).elim
  | _ :: _ :: _, _, q => exact (bad_no (S := S) q).elim
end Zd

namespace Zd
open PySem PySem.Spec PyProof.Rows L2
/-! ### raise C(x) -/
def spIni (C : Addr) (f : Str) : Sp := fun vs H Q _ => ∃ (a : Addr) (v : V), vs = [.ref a, v] ∧ H a = some (exo a C none) ∧ ∀ dx, H dx = none → dx ≠ a → Q .non (upd (upd H dx (exd dx [(f, v)])) a (exo a C (some dx)))
theorem rd_ini {C : Addr} {f : Str} {H : Hp} {Q : XK} {E : XK} {v : V} (k : ∀ d H', H d = none → Same H H' → H' d = some (.xd [(f, v)]) → Q (.ref C) (some d) H') :
    [v].length ≤ 1000 ∧ ∀ a, H a = none → spIni C f (.ref a :: ([v] ++ [])) (upd H a (exo a C none)) (fun u H2 => u = .non ∧ ∃ (d : Addr) (fs : List (Str × V)), H2 a = some (exo a C (some d)) ∧ H2 d = some (exd d fs) ∧ H d = none ∧ Q (.ref C) (some d) (upd (del H2 a) d (.xd fs))) E := by
  refine ⟨Nat.le_of_ble_eq_true rfl, fun a na => ⟨a, v, rfl, upd_same, fun dx nd ne => ?_⟩⟩
  have nd' : H dx = none := (upd_ne ne).symm.trans nd
  refine ⟨rfl, dx, _, upd_same, (upd_ne ne).trans upd_same, nd', k dx _ nd' (fun b o e => ?_) upd_same⟩
  have n1 : b ≠ a := ne_of_none e na
  have n2 : b ≠ dx := ne_of_none e nd'
  rw [upd_ne n2, del_ne n1, upd_ne n1, upd_ne n2, upd_ne n1]
  exact e
section
variable {Z : Cz} {Er : ErW} {O : List Nat} {vs : Option (List Nat)} {te ta tb tc : TE} {tt tu : TT} {m m1 m2 m3 : Env → M Dat} {mb mc : Env → M Bool} {tl : TA} {ml : Env → M (List Dat)} {ts tr : TS} {ms mr : Env → M Flow}
def sRaise (c : String) (f : Str) (l : Env → M (List Dat)) (ρ : Env) : M Flow := l ρ >>= fun ds => M.opt (one ds) >>= fun d => fun S => .er c [.obj c [f] [d]] S
theorem js_raise {c : String} {C : Addr} {f : Str} {E : XK} (hC : Z.κ c = C) (hl : JA Z (ErOf Z E) O tl ml) : JS Z (ErOf Z E) O (fun _ σ H => tMkO C (spIni C f) [] tl σ H fun cls d H' => E cls d H') (sRaise c f ml) := fun σ H p ρ S D hE hS q =>
  hl σ H p ρ S _ hE hS (q.bndE.mono fun ds S1 H1 p1 e1 s1 q1 vs hv => by
    subst hC
    obtain ⟨x, ex, q1⟩ := Post.opt q1
    rw [one_is ex] at hv
    obtain ⟨v, rfl, hv1⟩ := isDs_one hv
    have k : ∀ H' p', Ext H1 p1 H' p' → IsS Z H' p' S1 → ErOf Z E c [.obj c [f] [x]] S1 H' p'.α p'.γ := q1
    refine rd_ini fun d H' nd sm ed => k H1 p1 Ext.refl s1 [f] [x] rfl d H' [v] nd sm ed rfl (.one ?_)
    have l2 : ∀ b, (⟨p1.α, [], p1.γ⟩ : Pl).has b → p1.has b := fun b h => h.imp id fun h => .inr (h.resolve_left List.not_mem_nil)
    exact IsD.less (p := p1) (p' := ⟨p1.α, [], p1.γ⟩) rfl l2 _ (hv1.ext (ExtE.same sm).s))
/-! ### d = {..}; d.update({..}) -/
def dicOf : Dat → Option (List Key × List Dat)
  | .dic ks ds => some (ks, ds)
  | _ => none
theorem dicOf_is {d : Dat} {k : List Key × List Dat} (h : dicOf d = some k) : d = .dic k.1 k.2 := by
  cases d <;> first | (cases h; rfl) | cases h
def sDUpd (i : Nat) (a b : Env → M Dat) (ρ : Env) : M Flow := M.need (decide (i < ρ.length)) >>= fun _ => a ρ >>= fun x => M.opt (dicOf x) >>= fun k => b (ρ.set i none) >>= fun y => M.opt (dicOf y) >>= fun l => M.need (noDup (k.1 ++ l.1) && decide ((k.1 ++ l.1).length ≤ 1000)) >>= fun _ => pure (.nx (ρ.set i (some (.dic (k.1 ++ l.1) (k.2 ++ l.2)))))
theorem js_dupd {i : Nat} (oi : i ∉ O) (h1 : JF Z Er O ta m1) (h2 : JF Z Er O tb m2) (hr : JS Z Er O tr mr) : JS Z Er O (tSeq (tAsg ta (gName i)) (tSeq (tDrop (tDUpd (tVar i) tb)) tr)) (sSeq (sDUpd i m1 m2) mr) := fun σ H p ρ S D hE hS q => by
  have q0 := q.bnd xS
  obtain ⟨lt, q0⟩ := Post.need q0
  have lt := of_decide_eq_true lt
  have ltσ : i < σ.length := by rw [hE.len]; exact lt
  refine h1 σ H p ρ S _ hE hS ((q0.bndK.of xS).mono fun x S1 H1 p1 e1 s1 q1 a na na1 nh hs ht => ?_)
  show tDUpd (tVar i) tb (σ.set i (some (.ref a))) H1 (fun _ H2 => tr D (σ.set i (some (.ref a))) H2)
  have eP : Ext H p H1 ⟨p1.α, p1.ω ++ [a], p1.γ⟩ := by
    have z := ExtC.plus (p := p) (α' := p1.α) ⟨e1.α, rfl, rfl, e1.k, e1.t⟩ na
    rw [← e1.ω, ← e1.γ] at z
    exact z.s
  have mA : a ∈ p1.ω ++ [a] := List.mem_append_right _ (List.mem_singleton.mpr rfl)
  have others : ∀ (j : Nat) (z : Option Dat) (d : Dat), (ρ.set i z)[j]? = some (some d) → j ≠ i → ρ[j]? = some (some d) ∧ (σ.set i (some (.ref a)))[j]? = σ[j]? := fun j z d h n => by
    rw [List.getElem?_set_ne fun c => n c.symm] at h
    exact ⟨h, List.getElem?_set_ne fun c => n c.symm⟩
  have hE' : IsE Z O H1 ⟨p1.α, p1.ω ++ [a], p1.γ⟩ (σ.set i (some (.ref a))) (ρ.set i none) := by
    have notI : ∀ (j : Nat) (d : Dat), (ρ.set i none)[j]? = some (some d) → j ≠ i := fun j d h c => by
      subst c
      rw [List.getElem?_set_self lt] at h
      cases h
    refine ⟨by rw [List.length_set, List.length_set]; exact hE.len, fun j d nj h => ?_, fun j d oj h => ?_, fun j k b oj ok ne ⟨d1, hj⟩ ⟨d2, hk⟩ h => ?_⟩
    · obtain ⟨g, e⟩ := others j none d h (notI j d h)
      rw [e]
      obtain ⟨v, g1, g2⟩ := hE.get j d nj g
      exact ⟨v, g1, g2.ext eP⟩
    · obtain ⟨g, e⟩ := others j none d h (notI j d h)
      rw [e]
      obtain ⟨b, g1, g2, g3⟩ := hE.own j d oj g
      exact ⟨b, g1, List.mem_append_left _ (by rw [e1.ω]; exact g2), g3.ext eP fun u z => e1.k _ _ z (hS.dj b g2).1⟩
    · obtain ⟨g, e⟩ := others j none d1 hj (notI j d1 hj)
      obtain ⟨g', e'⟩ := others k none d2 hk (notI k d2 hk)
      rw [e] at h
      rw [e']
      exact hE.dj j k b oj ok ne ⟨d1, g⟩ ⟨d2, g'⟩ h
  · obtain ⟨⟨ks, ds⟩, ek, q1⟩ := Post.opt q1
    rw [dicOf_is ek] at ht
    obtain ⟨vs, a1, a2, a3⟩ := ht
    refine ⟨.ref a, List.getElem?_set_self ltσ, a, rfl, .inl ⟨_, .inl a1⟩, h2 _ H1 _ _ S1 _ hE' hs (((q1.bndK.up xS eP).of xS).mono fun y S2 H2 p2 e2 s2 q2 b nb nb1 nhb hsb htb => ?_)⟩
    · obtain ⟨⟨ms, es⟩, el, q2⟩ := Post.opt q2
      rw [dicOf_is el] at htb
      obtain ⟨ws, b1, b2, b3⟩ := htb
      obtain ⟨c, q3⟩ := Post.need q2
      clear q q0 q1 q2
      rw [Bool.and_eq_true, decide_eq_true_eq] at c
      have ab : a ≠ b := fun z => na1 (by rw [z]; exact nb)
      have aα : a ∉ p1.α := (hs.dj a mA).1
      have H2a : H2 a = some (.dK (ks.zip vs)) := e2.k a _ a1 aα
      have m2 : a ∈ p2.ω := by rw [e2.ω]; exact mA
      have sz := sizeLine_eq
      have few : (ks ++ ms).length ≤ 1000 := c.2
      have a2 : ks.length = vs.length := a2
      have b2 : ms.length = ws.length := b2
      rw [List.length_append] at few
      refine ⟨b, ks.zip vs, ms.zip ws, rfl, ab, H2a, b1, by rw [List.length_zip, List.length_zip]; omega, ?_⟩
      rw [merge_new c.1 a2 b2]
      have ePut : Ext H2 p2 (L2.upd H2 a (.dK ((ks ++ ms).zip (vs ++ ws)))) p2 := ext_put m2
      have ePut2 : Ext H2 ⟨p2.α, p2.ω ++ [b], p2.γ⟩ (L2.upd H2 a (.dK ((ks ++ ms).zip (vs ++ ws)))) ⟨p2.α, p2.ω ++ [b], p2.γ⟩ := ext_put (List.mem_append_left _ m2)
      have e12 := eP.trans e2.s
      have g2 : p2.γ = p.γ := e12.γ
      have w2 : p2.ω = p.ω ++ [a] := by rw [e2.ω]; show p1.ω ++ [a] = _; rw [e1.ω]
      have sub2 : ∀ x, (⟨p2.α, p.ω, p.γ⟩ : Pl).has x → p2.has x := fun x h => by
        rcases h with h | h | h
        · exact .inl h
        · exact .inr (.inl (by rw [w2]; exact List.mem_append_left _ h))
        · exact .inr (.inr (by rw [g2]; exact h))
      have eX : Ext H p (L2.upd H2 a (.dK ((ks ++ ms).zip (vs ++ ws)))) ⟨p2.α, p.ω, p.γ⟩ := ⟨e12.α, ⟨[], by simp⟩, rfl, fun x o h n1 n2 => by rw [upd_ne (ne_of_none h na)]; exact e12.k x o h n1 n2, fun x n => by
        by_cases c : x = a
        · rw [c, upd_same]; exact nofun
        · rw [upd_ne c]; exact e12.t x n⟩
      have sX : IsS Z (L2.upd H2 a (.dK ((ks ++ ms).zip (vs ++ ws)))) ⟨p2.α, p.ω, p.γ⟩ S2 := by
        have z := (hsb.put (o := .dK ((ks ++ ms).zip (vs ++ ws))) (List.mem_append_left _ m2)).less (ω := p.ω) fun x h => List.mem_append_left _ (by rw [w2]; exact List.mem_append_left _ h)
        rw [← g2]
        exact z
      have nh3 : ¬ (⟨p2.α, p.ω, p.γ⟩ : Pl).has a := by
        rintro (h | h | h)
        · exact (hsb.dj a (List.mem_append_left _ m2)).1 h
        · exact hS.wt a (.inl h) na
        · exact hS.wt a (.inr h) na
      have it1 : IsDs Z (L2.upd H2 a (.dK ((ks ++ ms).zip (vs ++ ws)))) ⟨p2.α, p.ω, p.γ⟩ vs ds := IsDs.less (p := p2) (p' := ⟨p2.α, p.ω, p.γ⟩) rfl sub2 _ ((a3.ext e2.s).ext ePut)
      have it2 : IsDs Z (L2.upd H2 a (.dK ((ks ++ ms).zip (vs ++ ws)))) ⟨p2.α, p.ω, p.γ⟩ ws es := IsDs.less (p := ⟨p2.α, p2.ω ++ [b], p2.γ⟩) (p' := ⟨p2.α, p.ω, p.γ⟩) rfl (fun x h => (sub2 x h).imp id fun h => h.imp (List.mem_append_left _) id) _ (b3.ext ePut2)
      have hE3 : IsE Z O (L2.upd H2 a (.dK ((ks ++ ms).zip (vs ++ ws)))) ⟨p2.α, p.ω, p.γ⟩ (σ.set i (some (.ref a))) (ρ.set i (some (.dic (ks ++ ms) (ds ++ es)))) := by
        refine ⟨by rw [List.length_set, List.length_set]; exact hE.len, fun j d nj h => ?_, fun j d oj h => ?_, fun j k b oj ok ne ⟨d1, hj⟩ ⟨d2, hk⟩ h => ?_⟩
        · by_cases c : j = i
          · subst c
            rw [List.getElem?_set_self lt] at h
            cases h
            exact ⟨.ref a, List.getElem?_set_self ltσ, isD_dic.mpr ⟨a, _, rfl, ⟨upd_same, nh3⟩, by rw [List.length_append, List.length_append, a2, b2], it1.append it2⟩⟩
          · obtain ⟨g, e⟩ := others j _ d h c
            rw [e]
            obtain ⟨v, g1, g2⟩ := hE.get j d nj g
            exact ⟨v, g1, g2.ext eX⟩
        · have c : j ≠ i := fun z => oi (z ▸ oj)
          obtain ⟨g, e⟩ := others j _ d h c
          rw [e]
          obtain ⟨b', k1, k2, k3⟩ := hE.own j d oj g
          refine ⟨b', k1, k2, k3.ext eX fun u z => ?_⟩
          rw [upd_ne (ne_of_none z na)]
          have z1 := e1.k _ _ z (hS.dj b' k2).1
          exact e2.k _ _ z1 (not_fresh e1.α z (hS.dj b' k2).1)
        · have c1 : j ≠ i := fun z => oi (z ▸ oj)
          have c2 : k ≠ i := fun z => oi (z ▸ ok)
          obtain ⟨g, e⟩ := others j _ d1 hj c1
          obtain ⟨g', e'⟩ := others k _ d2 hk c2
          rw [e] at h
          rw [e']
          exact hE.dj j k b oj ok ne ⟨d1, g⟩ ⟨d2, g'⟩ h
      exact hr _ _ _ _ S2 D hE3 sX (q3 _ _ eX sX)
end
end Zd

namespace Zd
open PySem PySem.Spec PyProof.Rows L2 Zg

/-! ### what laws have in common -/
theorem nin {i : Nat} : i ∉ ([] : List Nat) := List.not_mem_nil
theorem lt_units {n : Nat} (h : n + 64 < cLine) : n + 1 < cLine := by omega
theorem hu70 {k : Nat} {A : Around} (r : Room k A) : A.units + 70 < cLine := by
  have := r.un
  omega
def Cal (P : Program) (w : World) (K : PySem.W.Frag) (mg : Str → Option Value) (base : Heap) (k : Nat) (x : Str) (ps : List Str) (sp : Sp) : Prop :=
  ∃ (f : Addr) (fd : FuncData), FnOk P w K mg base CX0 k f fd ps sp ∧ Binds K fd ps [] ∧ mg x = some (.ref f) ∧ PySem.W.keepIn K (.ref f) = true
def CalX (P : Program) (w : World) (K : PySem.W.Frag) (mg : Str → Option Value) (base : Heap) (k : Nat) (x : Str) (ps : List Str) (sp : Sp) : Prop :=
  ∃ (f : Addr) (fd : FuncData), FnOk P w K mg base (L2.CX P w) k f fd ps sp ∧ Binds K fd ps [] ∧ mg x = some (.ref f) ∧ PySem.W.keepIn K (.ref f) = true
def CalG (P : Program) (w : World) (K : PySem.W.Frag) (mg : Str → Option Value) (base : Heap) (k : Nat) (x : Str) (ps : List Str) (sp : Sp) : Prop :=
  ∃ (f : Addr) (fd : FuncData), FnG P w K mg base CX0 k f fd ps sp ∧ Binds K fd ps [] ∧ mg x = some (.ref f) ∧ PySem.W.keepIn K (.ref f) = true
/-- builtins whose names the module leaves alone -/
structure TxD (mg : Str → Option Value) : Prop where
  n_int : mg "int" = none
  n_len : mg "len" = none
  n_abs : mg "abs" = none
  n_bool : mg "bool" = none
  n_tuple : mg "tuple" = none
  n_isinstance : mg "isinstance" = none
  n_range : mg "range" = none
  n_max : mg "max" = none
  n_min : mg "min" = none
  n_all : mg "all" = none
  n_repr : mg "repr" = none
  n_str : mg "str" = none
  n_any : mg "any" = none
  n_list : mg "list" = none
  n_zip : mg "zip" = none
  n_enumerate : mg "enumerate" = none
def strsT (xs : List Str) : Dat := .tup (xs.map .str)
theorem strs_of {Z : Cz} {H : Hp} {p : Pl} : ∀ {xs : List Str}, IsDs Z H p (xs.map V.str) (xs.map Dat.str)
  | [] => isDs_nil.mpr rfl
  | x :: xs => isDs_cons.mpr ⟨_, _, rfl, isD_str.mpr rfl, strs_of⟩
/-- a module's tuple of texts -/
structure GTup (K : PySem.W.Frag) (mg : Str → Option Value) (nm : Str) (a : Addr) (xs : List Str) : Prop where
  g : mg nm = some (.ref a)
  sq : ∀ H, SqT K H a (xs.map V.str)
theorem GTup.isD {K : PySem.W.Frag} {mg : Str → Option Value} {nm : Str} {a : Addr} {xs : List Str} (h : GTup K mg nm a xs) {κ : String → Addr} (H : Hp) (p : Pl) : IsD ⟨K, κ⟩ H p (.ref a) (strsT xs) := isD_tup.mpr ⟨a, _, rfl, .inr h.sq, strs_of⟩
def strsOf : List Value → Option (List Str)
  | [] => some []
  | .str x _ :: r => (strsOf r).map (x :: ·)
  | _ :: _ => none
theorem vals_strsOf : ∀ {us : List Value} {xs : List Str}, strsOf us = some xs → Vals (xs.map V.str) us
  | [], xs, h => by cases h; exact .nil
  | u :: r, xs, h => by
    cases u with
    | str x t =>
      unfold strsOf at h
      cases q : strsOf r with
      | none => rw [q] at h; cases h
      | some ys => rw [q] at h; cases h; exact .cons ⟨t, rfl⟩ (vals_strsOf q)
    | _ => cases h
/-- the texts of a written tuple -/
def tupW (K : PySem.W.Frag) (a : Addr) : Option (List Str) := match K.lookup a with
  | some ⟨.type c, _, .seq its _, _⟩ => if decide (c = "tuple") = true then strsOf its.toList else none
  | _ => none
theorem tupW_sq {K : PySem.W.Frag} {a : Addr} {xs : List Str} (h : tupW K a = some xs) (l : xs.length ≤ 100) (H : Hp) : SqT K H a (xs.map V.str) := by
  unfold tupW at h
  split at h
  · rename_i c d its n sl hl
    by_cases hc : c = "tuple"
    · rw [if_pos (decide_eq_true hc)] at h
      subst hc
      refine .inr ⟨_, its, n, hl, rfl, rfl, ?_, vals_strsOf h⟩
      have z := (vals_strsOf h).length
      rw [List.length_map] at z
      have : its.size = its.toList.length := by simp
      have sz := sizeLine_eq
      omega
    · rw [if_neg (by rw [decide_eq_true_eq]; exact hc)] at h
      cases h
  · cases h
/-- a module's dict of tuples of texts -/
def lkT (z : Str) : List (Str × List Str) → Option (List Str)
  | [] => none
  | (k, xs) :: r => if k == z then some xs else lkT z r
def tabOk (K : PySem.W.Frag) (a : Addr) : List (Str × List Str) → Bool
  | [] => true
  | (k, xs) :: r => (match PySem.W.nsIn K a k with
    | some (some (.ref b)) => (match tupW K b with
      | some ys => decide (ys = xs) && decide (xs.length ≤ 100)
      | none => false)
    | _ => false) && tabOk K a r
structure GTab (K : PySem.W.Frag) (w : World) (mg : Str → Option Value) (nm : Str) (a : Addr) (tab : List (Str × List Str)) : Prop where
  g : mg nm = some (.ref a)
  kt : KTab K w a
  tab : ∀ z : Str, ∃ r, PySem.W.nsIn K a z = some r ∧ (match lkT z tab with | some xs => ∃ b : Addr, r = some (.ref b) ∧ ∀ H, SqT K H b (xs.map V.str) | none => r = none)
theorem tab_hit {K : PySem.W.Frag} {a : Addr} {z : Str} : ∀ {tab : List (Str × List Str)}, tabOk K a tab = true → ∀ xs, lkT z tab = some xs → ∃ b : Addr, PySem.W.nsIn K a z = some (some (.ref b)) ∧ ∀ H, SqT K H b (xs.map V.str)
  | [], _, _, h => by cases h
  | (k, ys) :: r, ok, xs, h => by
    unfold tabOk at ok
    rw [Bool.and_eq_true] at ok
    unfold lkT at h
    by_cases e : (k == z) = true
    · rw [if_pos e] at h
      cases h
      have e := beq_iff_eq.mp e
      subst e
      have o := ok.1
      split at o
      · rename_i b hb
        split at o
        · rename_i zs hz
          simp only [Bool.and_eq_true, decide_eq_true_eq] at o
          rw [o.1] at hz
          exact ⟨b, hb, tupW_sq hz o.2⟩
        · cases o
      · cases o
    · rw [if_neg e] at h
      exact tab_hit ok.2 xs h
theorem lk_none {z : Str} : ∀ {tab : List (Str × List Str)}, lkT z tab = none → ∀ k ∈ tab.map (·.1), (k == z) = false
  | [], _, _, m => by cases m
  | (k, ys) :: r, h, x, m => by
    unfold lkT at h
    by_cases e : (k == z) = true
    · rw [if_pos e] at h; cases h
    · rw [if_neg e] at h
      rcases List.mem_cons.mp m with m | m
      · rw [m]; exact Bool.eq_false_iff.mpr e
      · exact lk_none h x m
theorem keys_at {P : Params} : ∀ {l : List DictEntry} {ks : List Str}, l.map He.keyOf = He.keysIn P ks → ∀ e ∈ l, ∃ k t, e.key = .str k t ∧ k ∈ ks
  | [], _, _, _, m => by cases m
  | e :: r, [], h, _, _ => by cases h
  | e :: r, k :: ks, h, x, m => by
    obtain ⟨h2, h3⟩ : He.keyOf e = some (k, PyData.keyHash P k) ∧ r.map He.keyOf = He.keysIn P ks := List.cons.inj h
    rcases List.mem_cons.mp m with rfl | m
    · unfold He.keyOf at h2
      split at h2
      · rename_i y t q
        have e : y = k := congrArg Prod.fst (Option.some.inj h2)
        subst e
        exact ⟨_, t, q, List.mem_cons_self⟩
      · cases h2
    · obtain ⟨k', t, q1, q2⟩ := keys_at h3 x m
      exact ⟨k', t, q1, List.mem_cons_of_mem _ q2⟩
theorem gtab_of {K : PySem.W.Frag} {w : World} {mg : Str → Option Value} {nm : Str} {a : Addr} {tab : List (Str × List Str)} (g : mg nm = some (.ref a)) (h1 : He.dicW K a = some (He.keysIn w.params (tab.map (·.1)))) (h2 : tabOk K a tab = true) : GTab K w mg nm a tab := by
  refine ⟨g, ⟨He.dicW_ok h1⟩, fun z => ?_⟩
  cases q : lkT z tab with
  | some xs =>
    obtain ⟨b, e1, e2⟩ := tab_hit h2 xs q
    exact ⟨_, e1, b, rfl, e2⟩
  | none =>
    refine ⟨none, ?_, rfl⟩
    unfold He.dicW at h1
    unfold PySem.W.nsIn
    split at h1
    · rename_i c es n sl hl
      rw [hl]
      split at h1
      · have h1 := Option.some.inj h1
        have ks := keys_at h1
        have no := lk_none q
        have f : es.toList.find? (·.key.isStr z) = none := by
          refine List.find?_eq_none.mpr fun e m c => ?_
          obtain ⟨k, t, q1, q2⟩ := ks e m
          rw [q1] at c
          have := no k q2
          change (k == z) = true at c
          rw [this] at c
          cases c
        have rf : es.toList.any (·.refKey) = false := by
          refine Bool.eq_false_iff.mpr fun c => ?_
          obtain ⟨e, m, c⟩ := List.any_eq_true.mp c
          obtain ⟨k, t, q1, _⟩ := ks e m
          unfold DictEntry.refKey at c
          rw [q1] at c
          cases c
        simp only [f, rf]
        rfl
      · cases h1
    · cases h1
section
variable {Z : Cz} {Er : ErW} {O : List Nat} {vs : Option (List Nat)} {te ta tb tc : TE} {tt tu : TT} {m m1 m2 m3 : Env → M Dat} {mb mc : Env → M Bool} {tl : TA} {ml : Env → M (List Dat)} {ts tr : TS} {ms mr : Env → M Flow}
def xKGet (tab : List (Str × List Str)) (a : Env → M Dat) (ρ : Env) : M Dat := a ρ >>= fun d => M.opt (sT d) >>= fun z => pure (match lkT z tab with | some xs => strsT xs | none => .non)
theorem j_kget {w : World} {a : Addr} {tab : List (Str × List Str)} (h : ∀ z : Str, ∃ r, PySem.W.nsIn Z.K a z = some r ∧ (match lkT z tab with | some xs => ∃ b : Addr, r = some (.ref b) ∧ ∀ H, SqT Z.K H b (xs.map V.str) | none => r = none)) (hb : JD Z Er O te m) : JD Z Er O (tKGet Z.K w a (tC (.ref a)) te) (xKGet tab m) := fun σ H p ρ S Q hE hS q =>
  ⟨rfl, hb σ H p ρ S _ hE hS ((q.bnd xE).mono fun d S1 H1 p1 e1 s1 q1 v hv => by
    obtain ⟨z, ez, q1⟩ := Post.opt q1
    rw [sT_is ez] at hv
    obtain ⟨r, hr, hm⟩ := h z
    have k := q1.pure xE s1
    refine ⟨z, r, isD_str.mp hv, hr, fun u eu => ?_, fun en => ?_⟩
    · cases e : lkT z tab with
      | none => rw [e] at hm; rw [eu] at hm; cases hm
      | some xs =>
        rw [e] at hm k
        obtain ⟨b, eb, sq⟩ := hm
        rw [eu] at eb
        cases eb
        exact ⟨.ref b, rfl, k _ (isD_tup.mpr ⟨b, _, rfl, .inr sq, strs_of⟩)⟩
    · cases e : lkT z tab with
      | none => rw [e] at k; exact k .non (isD_non.mpr rfl)
      | some xs => rw [e] at hm; obtain ⟨b, eb, _⟩ := hm; rw [en] at eb; cases eb)⟩
def iRg1 (l : Env → M (List Dat)) (ρ : Env) : M (List Dat) := l ρ >>= fun ds => match ds with
  | [.int j] => M.need (decide (-(2 ^ 62) ≤ j ∧ j < 2 ^ 62)) >>= fun _ => pure (intsD 0 j.toNat)
  | _ => M.no
theorem ji_rg1 {X : XR} (hl : JA Z Er O tl ml) : JI Z Er O X (iRng1 tl) (iRg1 ml) := ji_rng1 hl
def hasT (x y : Str) : Bool := !(Builtin.Str.occurrences y x 0 y.length 1).isEmpty
def dInT (neg : Bool) (d e : Dat) : M Dat := match d, e with
  | .str x, .str y => pure (.bl (neg != hasT x y))
  | _, _ => M.no
theorem r_inT : JRD Z (fun x y H Q => ∃ i j, x = .str i ∧ y = .str j ∧ Q (.bl (!(Builtin.Str.occurrences j i 0 j.length 1).isEmpty)) H) (dInT false) := fun x y d e Er H p S Q hx hy s q => by
  unfold dInT at q
  split at q
  · exact ⟨_, _, isD_str.mp hx, isD_str.mp hy, q.pure xE s _ (isD_bl.mpr (by rw [Bool.false_bne]; rfl))⟩
  · exact (bad_no (S := S) q).elim
end
theorem m0_isascii {x : Str} {H : Hp} {Q : VK} (h : Q (.bl (Txt.isascii x)) H) : ∃ a, V.str x = .str a ∧ ([] : List V) = [] ∧ True ∧ Q (.bl (Txt.isascii a)) H := ⟨x, rfl, rfl, trivial, h⟩
theorem m0_isalpha {x : Str} {H : Hp} {Q : VK} (h : Q (.bl (Txt.isalpha x)) H) : ∃ a, V.str x = .str a ∧ ([] : List V) = [] ∧ True ∧ Q (.bl (Txt.isalpha a)) H := ⟨x, rfl, rfl, trivial, h⟩
theorem m0_islower {x : Str} {H : Hp} {Q : VK} (h : Q (.bl (Txt.islower x)) H) : ∃ a, V.str x = .str a ∧ ([] : List V) = [] ∧ True ∧ Q (.bl (Txt.islower a)) H := ⟨x, rfl, rfl, trivial, h⟩
/-! ### errors with one field -/
structure ExT (K : PySem.W.Frag) (mg : Str → Option Value) (CW C : Addr) (nm f : Str) : Prop where
  ox : OexC K C
  nf : PySem.W.findIn K (.ref C) f = some none
  me : PySem.W.exmOne K (.ref C) (.ref CW) = some true
  kc : PySem.W.kitOne K (.ref C) (.ref C) = some true
  kv : PySem.W.kitOne K (.ref C) (.type "ValueError") = some true
  g : mg nm = some (.ref C)
end Zd

namespace Zg
open PySem PySem.Spec PyProof.Rows L2
/-! ### a caught error that is kept behind its suite -/
section
variable {X : Cx} {pins : List (Addr × Obj)} {σ : L2.St} {H : Hp} {s : Shared}
/-- what is kept behind: the context with the error pinned -/
abbrev kept (X : Cx) (a : Addr) (oe : Obj) (pn : List (Addr × Obj)) : Cx := X.tr ((a, oe) :: pn) X.xe
theorem un_kept {a : Addr} {oe : Obj} {pn' : List (Addr × Obj)} (ok : X.Ok) (J : Inv (kept X a oe (X.pn ++ pins)) pn' σ H s) : Inv X pins σ H s where
  ok := ok
  os := J.os
  bare := J.bare
  base := J.base
  loc := J.loc
  cell := J.cell
  free := J.free
  freeC := J.freeC
  pin := fun q hq => J.pin q (List.mem_append.mpr (.inl (List.mem_cons.mpr (.inr hq))))
  hok := J.hok
  len := J.len
theorem kept_of {a : Addr} {oe : Obj} {pn pn' : List (Addr × Obj)} (ok : X.Ok) (J : Inv (X.suite a ((a, oe) :: pn)) pn' σ H s) : Inv (kept X a oe pn) pn' σ H s where
  ok := ok.toTry _ _
  os := J.os
  bare := J.bare
  base := J.base
  loc := J.loc
  cell := J.cell
  free := J.free
  freeC := J.freeC
  pin := J.pin
  hok := J.hok
  len := J.len
theorem sp_kept {a : Addr} {oe : Obj} {D : Ends} {fl : Flow} (ok : X.Ok) (h : SP (kept X a oe (X.pn ++ pins)) [] D fl s) : SP X pins D fl s := by
  match fl, h with
  | .next, ⟨σ', H', J, q⟩ => exact ⟨σ', H', un_kept ok J, q⟩
  | .brk, ⟨σ', H', J, q⟩ => exact ⟨σ', H', un_kept ok J, q⟩
  | .cont, ⟨σ', H', J, q⟩ => exact ⟨σ', H', un_kept ok J, q⟩
  | .ret _, ⟨v, σ', H', J, r, q⟩ => exact ⟨v, σ', H', un_kept ok J, r, q⟩
end
/-- what a try that keeps its error wishes of one that its body raises -/
def wKeep (K : PySem.W.Frag) (c : Value) (i : Nat) (ts tk : Addr → Value → Option Addr → TS) (D : Ends) : WX := fun cls d σ H =>
  PySem.W.exmOne K cls c = some true ∧ ∀ a, H a = none → ts a cls d { nx := fun σ' H' => tk a cls d D (σ'.set i none) H', rt := fun _ _ => False } (σ.set i (some (.ref a))) H
section
variable {X : Cx} {x n : Str} {c : Value} {i : Nat} {body suite rest : List Stmt} {b₀ : Stmt} {np pos pos' : Pos} {tb : WX → TS} {ts tk : Addr → Value → Option Addr → TS} {t0 : TS}
/-- try: body / except x as n: suite, and what stands behind, read in the light of the error that was caught -/
theorem pss_keep (hs : X.stack = X.env :: X.outer) (hf : X.env.frame = some X.env.locals) (hN : X.N.Nodup) (hi : X.N[i]? = some n) (hln : X.env.kindOf n = some .local) (hc : Names X x c)
    (hb : ∀ (W : WX) (pn : List (Addr × Obj)) (xe : Value → Shared → Prop), Takes (X.tr pn xe) W → PSs (X.tr pn xe) body (tb W))
    (hsu : ∀ (a : Addr) (oe : Obj) (cls : Value) (d : Option Addr) (pn : List (Addr × Obj)), Zc cls d oe → (∃ vs, oe.data = .fields vs) → PSs (X.suite a ((a, oe) :: pn)) (b₀ :: suite) (ts a cls d))
    (h0 : PSs X rest t0)
    (hk : ∀ (a : Addr) (oe : Obj) (cls : Value) (d : Option Addr) (pn : List (Addr × Obj)), Zc cls d oe → (∃ vs, oe.data = .fields vs) → PSs (kept X a oe pn) rest (tk a cls d)) :
    PSs X (.Try body [.ExceptHandler (some (.Name x np)) (some n) (b₀ :: suite) pos'] [] [] pos :: rest) (fun D σ H => tb (wKeep X.K c i ts tk D) { D with nx := t0 D } σ H) := by
  constructor
  intro pins s σ H D I h
  have ok := I.ok
  -- either as behind any statement, or with the error kept
  refine wpAny_execs_cons (thn (Q := fun fl s1 => SP X pins { D with nx := t0 D } fl s1 ∨ (fl = .next ∧ ∃ (a : Addr) (oe : Obj) (cls : Value) (d : Option Addr) (σ' : L2.St) (H' : Hp), Zc cls d oe ∧ (∃ vs, oe.data = .fields vs) ∧
    Inv (kept X a oe (X.pn ++ pins)) [] σ' H' s1 ∧ tk a cls d D σ' H')) ?_ fun fl s1 z => ?_)
  · have hfr : X.A.frames = some (X.env :: X.outer) := ok.frames.trans (congrArg some hs)
    refine wpAny_Try_except ?_
    refine wpAny_mono ((hb (wKeep X.K c i ts tk D) (X.pn ++ pins) _ (fun u s' xx => ?_)).run [] s σ H _ (I.toTry _) h) (fun fl s1 z => ?_) (fun e s1 he => he)
    · -- what the body raises is caught here
      obtain ⟨a, B, sI, pins', σ', H', cls, d, eu, J', nb, up, sky, na, os, ag, hyes, hgo⟩ := xx
      subst eu
      have J : Inv X pins σ' H' sI := J'.ofTry ok
      have air : Sky B (X.env :: X.outer) a (Zc cls d) X.env.locals s'.heap := hs ▸ sky
      refine Sky.land Zc.steady hfr hf air fun h1 fly1 up1 => ?_
      have J1 : Inv X pins σ' H' { s' with heap := h1 } := J.landed nb fly1.1 (up.trans up1) os ag
      obtain ⟨o1, v1, at1, z1, f1⟩ := fly1.there
      have off : a ∉ frs (X.env :: X.outer) := fun hm => by
        obtain ⟨_, o', e', no⟩ := fly1.2.2.1.mem hm
        rw [at1] at e'
        cases e'
        exact no _ f1
      have offL : a ≠ X.env.locals := fun z => off (List.mem_filterMap.mpr ⟨X.env, List.mem_cons_self, hf.trans (congrArg some z.symm)⟩)
      have offF : a ∉ X.fs := fun hm => by
        obtain ⟨e, m, q⟩ := List.mem_filterMap.mp hm
        exact off (List.mem_filterMap.mpr ⟨e, List.mem_cons_of_mem _ m, q⟩)
      have S1 := J1.suite at1 f1 na offL offF
      have cl : PySem.W.Looks (model X.prog X.w) h1 (typeOf (.ref a)) cls := fun A Q E s k q => wpAny_typeOf_ref (k _ _ at1) (z1.1.symm ▸ q)
      have fits := PySem.W.exm_one (M := model X.prog X.w) J1.kIn cl hyes
      have named : ∀ {Q : Value → Shared → Prop} {E : Value → Shared → Prop}, Q c { s' with heap := h1 } → wpAny (model X.prog X.w) (X.A.mark (some (.ref a))) (eval (.Name x np) X.env) Q E { s' with heap := h1 } := fun {Q E} q => by
        obtain ⟨g, nodb, m⟩ := hc
        rcases m with m | ⟨m, bt, nn⟩
        · exact ld_glob (X := X.suite a ((a, o1) :: (X.pn ++ pins))) S1 g m q nodb
        · exact ld_blt (X := X.suite a ((a, o1) :: (X.pn ++ pins))) S1 g m bt q nn nodb
      refine wpAny_handleBy_cons (codeAny_handlers_test (named (fits.here ?_))) (fun q => nomatch q)
      refine codeAny_handlers_suite_as (HandSPX.lands_againZ fly1 fun h2 fly2 up2 => ?_)
      obtain ⟨o2, v2, at2, z2, f2⟩ := fly2.there
      have S2 := (J.landed (s' := { s' with heap := h2 }) nb fly2.1 ((up.trans up1).trans up2) os ag).suite at2 f2 na offL offF
      refine store_ok (X := X.suite a ((a, o2) :: (X.pn ++ pins))) (v := .ref a) S2 hN hi (.inl hln) rfl (fun s3 S3 => ?_) (.inr hln)
      refine wpAny_mono ((hsu a o2 cls d (X.pn ++ pins) z2 ⟨_, f2⟩).run [] s3 _ H' _ S3 (hgo a na)) (fun fl s4 z => ?_) (fun _ _ z => False.elim z)
      match fl, z with
      | .next, ⟨σ4, H4, S4, q4⟩ => exact gone_ok (X := kept X a o2 (X.pn ++ pins)) (kept_of ok S4) hN hi hln fun s5 J5 => .inr ⟨rfl, a, o2, cls, d, _, _, z2, ⟨_, f2⟩, J5, q4⟩
      | .brk, ⟨_, _, _, q4⟩ => exact False.elim q4
      | .cont, ⟨_, _, _, q4⟩ => exact False.elim q4
      | .ret _, ⟨_, _, _, _, _, q4⟩ => exact False.elim q4
    · match fl, z with
      | .next, ⟨σ', H', J', q⟩ => exact wpAny_execs_nil (.inl ⟨σ', H', J'.ofTry ok, q⟩)
      | .brk, ⟨σ', H', J', q⟩ => exact .inl ⟨σ', H', J'.ofTry ok, q⟩
      | .cont, ⟨σ', H', J', q⟩ => exact .inl ⟨σ', H', J'.ofTry ok, q⟩
      | .ret _, ⟨v, σ', H', J', r, q⟩ => exact .inl ⟨v, σ', H', J'.ofTry ok, r, q⟩
  · rcases z with z | ⟨rfl, a, oe, cls, d, σ', H', zc, hd, J, q⟩
    · match fl, z with
      | .next, ⟨σ', H', J, q⟩ => exact h0.run pins s1 σ' H' D J q
      | .brk, z => exact z
      | .cont, z => exact z
      | .ret _, z => exact z
    · exact thn ((hk a oe cls d (X.pn ++ pins) zc hd).run [] s1 σ' H' D J q) fun fl s2 z => sp_kept ok z
end
/-- what an own exception class must have, so that isinstance and fields are read of its objects -/
structure ExcK (K : PySem.W.Frag) (C : Addr) : Prop where
  cl : (PySem.W.clsIn K C).isSome = true
  ga : PySem.W.findIn K (.ref C) "__getattribute__" = some (some (.builtin "BaseException.__getattribute__"))
  gg : PySem.W.findIn K (.ref C) "__getattr__" = some none
  su : PySem.W.subIn K (.ref C) (.type "BaseException") = some true
  ha : PySem.W.findIn K (.ref C) "__class__" = some (some (.builtin "object.__class__"))
  hn : PySem.W.specialIn K (.builtin "object.__class__") "__get__" = some (some (.builtin "getset_descriptor.__get__"))
  ht : PySem.W.takesIn K (.builtin "object.__class__") = some true
  hm : PySem.W.mroIn K C (.type "object") = some true
  hd : PySem.W.hasDictIn K C = true
section
variable {X : Cx} {a : Addr} {oe : Obj} {cls : Value} {d : Option Addr}
theorem held_at {pins : List (Addr × Obj)} {σ : L2.St} {H : Hp} {s : Shared} {C dd : Addr} {fs : List (Str × V)} (hp : (a, oe) ∈ X.pn) (hz : Zc cls d oe) (hf : ∃ vs, oe.data = .fields vs) (I : Inv X pins σ H s) (ec : cls = .ref C) (ed : d = some dd) (ea : H dd = some (.xd fs)) :
    ∃ (od : Obj) (mA : Str → Option Value), PySem.W.InstAt s.heap a oe C (some od) ∧ (∀ y, PySem.W.lookIn y od = some (mA y)) ∧ ∀ y, RelO (fs.lookup y) (mA y) := by
  subst ec
  subst ed
  obtain ⟨ha, _⟩ := I.pin (a, oe) (List.mem_append.mpr (.inl hp))
  obtain ⟨vs, hd⟩ := hf
  have z : ObjOk X.prog X.w H s.heap dd (.xd fs) := I.hok dd _ ea
  obtain ⟨mA, hns, hr⟩ := z
  obtain ⟨od, ho, hl⟩ := lookIn_ns hns
  refine ⟨od, mA, ⟨ha, hz.1, ?_, ?_⟩, hl, hr⟩
  · unfold PySem.W.notCls
    rw [hd]
  · rw [hz.2]
    exact ho
/-- isinstance(e, c), e the error that is kept -/
def rIsP (K : PySem.W.Frag) (a : Addr) (cls : Value) (d : Option Addr) : List V → Hp → VK → Prop := fun xs H Q =>
  ∃ (C dd : Addr) (fs : List (Str × V)) (c : V) (cv : Value) (b : Bool), xs = [.ref a, c] ∧ cls = .ref C ∧ ExcK K C ∧ d = some dd ∧ H dd = some (.xd fs) ∧ (∀ u, RelV c u → u = cv) ∧ PySem.W.kitOne K (.ref C) cv = some b ∧ Q (.bl b) H
theorem call_isP (hp : (a, oe) ∈ X.pn) (hz : Zc cls d oe) (hf : ∃ vs, oe.data = .fields vs) : CallR X (.builtin "isinstance") (rIsP X.K a cls d) := by
  intro pins s σ H xs us Q I r h
  obtain ⟨C, dd, fs, c, cv, b, rfl, ec, T, ed, ea, hcv, e, q⟩ := h
  cases r with
  | cons rx rr =>
    cases rr with
    | cons rt rr =>
      cases rr
      cases rx
      have ev := hcv _ rt
      subst ev
      obtain ⟨od, mA, J, _⟩ := held_at hp hz hf I ec ed ea
      exact PySem.W.kia_one (PySem.W.kitx_exc T.cl T.ga T.gg T.su T.ha T.hn T.ht T.hm) I.kIn J e (fun z => nomatch z) fun tk => ⟨.bl b, H, I.kept (t' := tk) fun _ _ z => z, rfl, q⟩
/-- e.f, e the error that is kept -/
def tXfP (K : PySem.W.Frag) (a : Addr) (cls : Value) (d : Option Addr) (f : Str) (te : TE) : TE := fun σ H Q => te σ H fun x H1 => x = .ref a ∧
  ∃ (C dd : Addr) (fs : List (Str × V)) (v : V), cls = .ref C ∧ ExcK K C ∧ PySem.W.findIn K (.ref C) f = some none ∧ d = some dd ∧ H1 dd = some (.xd fs) ∧ fs.lookup f = some v ∧ Q v H1
theorem pe_xfP {e : Expr} {te : TE} {pos : Pos} {n : Str} (hp : (a, oe) ∈ X.pn) (hz : Zc cls d oe) (hf : ∃ vs, oe.data = .fields vs) (he : PE X e te) (hb : attributeBase e n X.env (eval e X.env) = eval e X.env := by rfl) :
    PE X (.Attribute e n pos) (tXfP X.K a cls d n te) := by
  constructor
  intro pins s σ H Q I h
  refine attr_of hb (thn (he.run pins s σ H _ I h) fun u s1 hh => ?_)
  obtain ⟨x, H1, I1, rx, ex, C, dd, fs, v, ec, T, no, ed, ea, l, q⟩ := hh
  subst ex
  obtain rfl : u = Value.ref a := rx
  obtain ⟨od, mA, J, hl, hr⟩ := held_at hp hz hf I1 ec ed ea
  obtain ⟨u, hu, ru⟩ := RelO.some_of (v := v) (o := mA n) (by rw [← l]; exact hr n)
  exact HandSPX.exc_get I1.kIn J T.ga T.gg T.su (PySem.W.findObj_own T.hd no rfl ((hl n).trans (congrArg some hu))) (handed_of ru) ⟨v, H1, I1.tok _, ru, q⟩
end
theorem kit_sub {K : PySem.W.Frag} {C : Addr} {n : String} (hm : PySem.W.kitMeta n = true) (h : PySem.W.subIn K (.ref C) (.type n) = some true) : PySem.W.kitOne K (.ref C) (.type n) = some true := by
  unfold PySem.W.kitOne PySem.W.kitCls
  rw [if_neg (by simp)]
  first
    | (rw [if_pos hm]; exact h)
    | (simp only [hm, if_true]; exact h)
theorem rd_ost {K : PySem.W.Frag} {a C : Addr} {f : Str} {y : V} {H : Hp} {R : Hp → Prop} (T : OexC K C) (no : PySem.W.findIn K (.ref C) f = some none) (e : H a = some (exo a C none)) (k : ∀ dx, H dx = none → dx ≠ a → R (upd (upd H dx (exd dx [(f, y)])) a (exo a C (some dx)))) :
    ∃ a' C' : Addr, V.ref a = .ref a' ∧ OexC K C' ∧ PySem.W.findIn K (.ref C') f = some none ∧ ((H a' = some (exo a' C' none) ∧ ∀ dx, H dx = none → dx ≠ a' → R (upd (upd H dx (exd dx [(f, y)])) a' (exo a' C' (some dx)))) ∨
      ∃ (dx : Addr) (fs : List (Str × V)), H a' = some (exo a' C' (some dx)) ∧ H dx = some (exd dx fs) ∧ fs.length ≤ 900 ∧ R (upd H dx (exd dx ((f, y) :: fs)))) := ⟨a, C, rfl, T, no, .inl ⟨e, k⟩⟩
theorem pss_none {X : Cx} {l : List Stmt} : PSs X l (fun _ _ _ => False) := ⟨fun _ _ _ _ _ _ h => h.elim⟩
section
variable {X : Cx} {a : Addr} {oe : Obj} {cls : Value} {d : Option Addr} {pn : List (Addr × Obj)}
theorem call_isK (hz : Zc cls d oe) (hf : ∃ vs, oe.data = .fields vs) : CallR (kept X a oe pn) (.builtin "isinstance") (rIsP X.K a cls d) := call_isP (X := kept X a oe pn) List.mem_cons_self hz hf
theorem pe_xfK {e : Expr} {te : TE} {pos : Pos} {n : Str} (hz : Zc cls d oe) (hf : ∃ vs, oe.data = .fields vs) (he : PE (kept X a oe pn) e te) (hb : attributeBase e n X.env (eval e X.env) = eval e X.env := by rfl) :
    PE (kept X a oe pn) (.Attribute e n pos) (tXfP X.K a cls d n te) := pe_xfP (X := kept X a oe pn) List.mem_cons_self hz hf he hb
end

section
variable {X : Cx} {CX : CXT} {k : Nat} {f : Addr} {fd : FuncData} {ps : List Str} {sp : Sp} {x : Str} {p pos : Pos} {e : Expr} {es : List Expr} {t : TA}
/-- f(e, ..) in a try: what it raises goes to the wish that the slots at hand have -/
def tCallX (sp : Sp) (E : L2.St → XK) (t : TA) : TE := fun σ H Q => tCall sp [] (E σ) t σ H Q
theorem pe_callXs {E : L2.St → XK} (F : FnOk X.prog X.w X.K X.mg X.base CX k f fd ps sp) (hr : Room k X.A) (hg : Gl X x) (hm : X.mg x = some (.ref f)) (hk : PySem.W.keepIn X.K (.ref f) = true)
    (hb : Binds X.K fd ps []) (hx : ∀ σ, PassesAt CX X σ (E σ)) (ha : PA X (e :: es) t) (hdb : (x == ("__debug__" : Str)) = false := by decide)
    (he : starEach (e :: es) X.env = (false, eval e X.env) :: starEach es X.env := by rfl) (hpl : (backTo pos (starEach es X.env)).any (·.1) = false := by rfl) :
    PE X (.Call (.Name x p) (e :: es) [] pos) (tCallX sp E t) := by
  constructor
  intro pins s σ H Q I h
  refine wpAny_Call_Name_kw (ld_glob I hg hm (PySem.W.callWith_K (h₀ := X.base) I.ok.mod.kin hk (thn (ha.run pos pins s σ H _ I h) fun us s1 z => ?_) he hpl) hdb)
  obtain ⟨vs, H1, J, rel, q⟩ := z
  have q' : sp vs H1 Q (E σ) := by rw [← List.append_nil vs]; exact q
  exact ⟨J.kIn, run_fnS (us := us) (vs := vs) F hr hb (hx σ) J rel q'⟩
end
/-- a test that is a choice -/
def tIfT (t u v : TT) : TT := fun σ H Q => t σ H fun c H1 => if c = true then u σ H1 Q else v σ H1 Q
theorem pt_ifExp {X : Cx} {a b c : Expr} {pos : Pos} {tc ta tb : TT} (hc : PT X c tc) (ha : PT X a ta) (hb : PT X b tb) : PT X (.IfExp c a b pos) (tIfT tc ta tb) := by
  refine ⟨fun pins s σ H Q I h => ?_⟩
  refine PyProof.Rows.isTrue_IfExp (thn (hc.run pins s σ H _ I h) fun d s1 ⟨H1, I1, q1⟩ => ?_)
  cases d with
  | true => exact ha.run pins s1 σ H1 Q I1 q1
  | false => exact hb.run pins s1 σ H1 Q I1 q1
end Zg
namespace Zd
open PySem PySem.Spec PyProof.Rows L2 Zg
def bIf (c a b : Env → M Bool) (ρ : Env) : M Bool := c ρ >>= fun x => if x = true then a ρ else b ρ
theorem jb_if {Z : Cz} {Er : ErW} {O : List Nat} {tt tu tv : TT} {mb mc md : Env → M Bool} (hc : JB Z Er O tt mb) (ha : JB Z Er O tu mc) (hb : JB Z Er O tv md) : JB Z Er O (tIfT tt tu tv) (bIf mb mc md) := fun σ H p ρ S Q hE hS q =>
  hc σ H p ρ S _ hE hS ((q.bnd xE).mono fun d S1 H1 p1 e1 s1 q1 v hv => by
    subst hv
    cases v with
    | true => exact ha σ H1 p1 ρ S1 Q (hE.ext e1 hS) s1 q1
    | false => exact hb σ H1 p1 ρ S1 Q (hE.ext e1 hS) s1 q1)
end Zd

namespace Zd
open PySem PySem.Spec PyProof.Rows L2
/-! ### data without places; a call in an empty store, whose answer stands still -/
mutual
def noLoc : Dat → Bool
  | .loc _ => false
  | .tup ds => noLocs ds
  | .lst ds => noLocs ds
  | .dic _ ds => noLocs ds
  | .obj _ _ ds => noLocs ds
  | _ => true
def noLocs : List Dat → Bool
  | [] => true
  | d :: ds => noLoc d && noLocs ds
end
def frzs (f : Dat → Option Dat) : List Dat → Option (List Dat)
  | [] => some []
  | d :: ds => match f d with
    | some e => match frzs f ds with
      | some es => some (e :: es)
      | none => none
    | none => none
def frz (S : List Dat) : Nat → Dat → Option Dat
  | 0, _ => none
  | n + 1, d => match d with
    | .loc k => match S[k]? with
      | some t => frz S n t
      | none => none
    | .tup ds => match frzs (frz S n) ds with
      | some es => some (.tup es)
      | none => none
    | .lst ds => match frzs (frz S n) ds with
      | some es => some (.lst es)
      | none => none
    | .dic ks ds => match frzs (frz S n) ds with
      | some es => some (.dic ks es)
      | none => none
    | .obj c fs ds => match frzs (frz S n) ds with
      | some es => some (.obj c fs es)
      | none => none
    | .non => some .non
    | .bl b => some (.bl b)
    | .int i => some (.int i)
    | .str x => some (.str x)
    | .ty x => some (.ty x)
    | .cls x => some (.cls x)
    | .scr x => some (.scr x)
section
variable {Z : Cz} {H : Hp} {p pc : Pl} {S : List Dat}
mutual
theorem IsD.still (hs : ∀ a, pc.has a → p.has a) : ∀ (d : Dat) {v : V}, noLoc d = true → IsD Z H p v d → IsD Z H pc v d
  | .non, _, _, h => isD_non.mpr (isD_non.mp h)
  | .bl b, _, _, h => isD_bl.mpr (isD_bl.mp h)
  | .int i, _, _, h => isD_int.mpr (isD_int.mp h)
  | .str x, _, _, h => isD_str.mpr (isD_str.mp h)
  | .ty n, _, _, h => isD_ty.mpr (isD_ty.mp h)
  | .cls c, _, _, h => by unfold IsD at h ⊢; exact h
  | .scr ns, _, _, h => by
    obtain ⟨a, e, h⟩ := isD_scr.mp h
    exact isD_scr.mpr ⟨a, e, h.imp (fun q => ⟨q.1, fun z => q.2 (hs a z)⟩) id⟩
  | .tup ds, _, n, h => by
    obtain ⟨a, vs, e, h1, h2⟩ := isD_tup.mp h
    exact isD_tup.mpr ⟨a, vs, e, h1.imp (fun q => ⟨q.1, fun z => q.2 (hs a z)⟩) id, IsDs.still hs ds (by rw [noLoc] at n; exact n) h2⟩
  | .lst ds, _, n, h => by
    obtain ⟨a, vs, e, h1, h2⟩ := isD_lst.mp h
    exact isD_lst.mpr ⟨a, vs, e, ⟨h1.1, fun z => h1.2 (hs a z)⟩, IsDs.still hs ds (by rw [noLoc] at n; exact n) h2⟩
  | .dic ks ds, _, n, h => by
    obtain ⟨a, vs, e, h1, hl, h2⟩ := isD_dic.mp h
    exact isD_dic.mpr ⟨a, vs, e, ⟨h1.1, fun z => h1.2 (hs a z)⟩, hl, IsDs.still hs ds (by rw [noLoc] at n; exact n) h2⟩
  | .obj c fs ds, _, n, h => by
    obtain ⟨a, vs, e, h1, hl, h2⟩ := isD_obj.mp h
    exact isD_obj.mpr ⟨a, vs, e, ⟨h1.1, fun z => h1.2 (hs a z)⟩, hl, IsDs.still hs ds (by rw [noLoc] at n; exact n) h2⟩
  | .loc k, _, n, h => by cases n
theorem IsDs.still (hs : ∀ a, pc.has a → p.has a) : ∀ (ds : List Dat) {vs : List V}, noLocs ds = true → IsDs Z H p vs ds → IsDs Z H pc vs ds
  | [], _, _, h => isDs_nil.mpr (isDs_nil.mp h)
  | d :: ds, _, n, h => by
    obtain ⟨v, r, e, h1, h2⟩ := isDs_cons.mp h
    rw [noLocs, Bool.and_eq_true] at n
    exact isDs_cons.mpr ⟨v, r, e, IsD.still hs d n.1 h1, IsDs.still hs ds n.2 h2⟩
end
theorem frzs_is {f : Dat → Option Dat} (hf : ∀ d e v, f d = some e → IsD Z H p v d → IsD Z H pc v e) : ∀ (ds : List Dat) {es : List Dat} {vs : List V}, frzs f ds = some es → IsDs Z H p vs ds → IsDs Z H pc vs es
  | [], _, _, e, h => by cases e; exact isDs_nil.mpr (isDs_nil.mp h)
  | d :: ds, _, _, e, h => by
    obtain ⟨v, r, ev, h1, h2⟩ := isDs_cons.mp h
    unfold frzs at e
    split at e
    · rename_i e1 q1
      split at e
      · rename_i es1 q2
        cases e
        exact isDs_cons.mpr ⟨v, r, ev, hf _ _ _ q1 h1, frzs_is hf ds q2 h2⟩
      · cases e
    · cases e
theorem frz_is (s : IsS Z H p S) (hs : ∀ a, pc.has a → p.has a ∧ a ∉ p.α) : ∀ (n : Nat) (d e : Dat) (v : V), frz S n d = some e → (IsD Z H p v d → IsD Z H pc v e) ∧ (∀ a, v = .ref a → ¬ pc.has a → IsTop Z H p a d → IsD Z H pc v e)
  | 0, _, _, _, h => by cases h
  | n + 1, d, e, v, h => by
    have ih := frz_is s hs n
    have its : ∀ (ds : List Dat) (es : List Dat) (vs : List V), frzs (frz S n) ds = some es → IsDs Z H p vs ds → IsDs Z H pc vs es := fun ds es vs h k => frzs_is (fun d e v h k => (ih d e v h).1 k) ds h k
    have nh : ∀ a, ¬ p.has a → ¬ pc.has a := fun a h z => h (hs a z).1
    cases d with
    | loc k =>
      unfold frz at h
      refine ⟨fun g => ?_, fun a _ _ g => g.elim⟩
      obtain ⟨a, ev, ha⟩ := isD_loc.mp g
      dsimp only at h
      split at h
      · rename_i t et
        exact (ih t e v h).2 a ev (fun z => (hs a z).2 (List.mem_of_getElem? ha)) (s.at_ k a t ha et)
      · cases h
    | tup ds =>
      unfold frz at h
      dsimp only at h
      split at h
      · rename_i es ee
        cases h
        refine ⟨fun g => ?_, fun a _ _ g => g.elim⟩
        obtain ⟨a, vs, ev, h1, h2⟩ := isD_tup.mp g
        exact isD_tup.mpr ⟨a, vs, ev, h1.imp (fun q => ⟨q.1, nh a q.2⟩) id, its _ _ _ ee h2⟩
      · cases h
    | lst ds =>
      unfold frz at h
      dsimp only at h
      split at h
      · rename_i es ee
        cases h
        refine ⟨fun g => ?_, fun a ev na g => ?_⟩
        · obtain ⟨a, vs, ev, h1, h2⟩ := isD_lst.mp g
          exact isD_lst.mpr ⟨a, vs, ev, ⟨h1.1, nh a h1.2⟩, its _ _ _ ee h2⟩
        · obtain ⟨vs, h1, h2⟩ := g
          exact isD_lst.mpr ⟨a, vs, ev, ⟨h1, na⟩, its _ _ _ ee h2⟩
      · cases h
    | dic ks ds =>
      unfold frz at h
      dsimp only at h
      split at h
      · rename_i es ee
        cases h
        refine ⟨fun g => ?_, fun a ev na g => ?_⟩
        · obtain ⟨a, vs, ev, h1, hl, h2⟩ := isD_dic.mp g
          exact isD_dic.mpr ⟨a, vs, ev, ⟨h1.1, nh a h1.2⟩, hl, its _ _ _ ee h2⟩
        · obtain ⟨vs, h1, hl, h2⟩ := g
          exact isD_dic.mpr ⟨a, vs, ev, ⟨h1, na⟩, hl, its _ _ _ ee h2⟩
      · cases h
    | obj c fs ds =>
      unfold frz at h
      dsimp only at h
      split at h
      · rename_i es ee
        cases h
        refine ⟨fun g => ?_, fun a ev na g => ?_⟩
        · obtain ⟨a, vs, ev, h1, hl, h2⟩ := isD_obj.mp g
          exact isD_obj.mpr ⟨a, vs, ev, ⟨h1.1, nh a h1.2⟩, hl, its _ _ _ ee h2⟩
        · obtain ⟨dx, vs, h1, hl, h2⟩ := g
          exact isD_obj.mpr ⟨a, vs, ev, ⟨⟨dx, h1⟩, na⟩, hl, its _ _ _ ee h2⟩
      · cases h
    | non => cases h; exact ⟨fun g => isD_non.mpr (isD_non.mp g), fun a _ _ g => g.elim⟩
    | bl b => cases h; exact ⟨fun g => isD_bl.mpr (isD_bl.mp g), fun a _ _ g => g.elim⟩
    | int i => cases h; exact ⟨fun g => isD_int.mpr (isD_int.mp g), fun a _ _ g => g.elim⟩
    | str x => cases h; exact ⟨fun g => isD_str.mpr (isD_str.mp g), fun a _ _ g => g.elim⟩
    | ty x => cases h; exact ⟨fun g => isD_ty.mpr (isD_ty.mp g), fun a _ _ g => g.elim⟩
    | cls x => cases h; exact ⟨fun g => by unfold IsD at g ⊢; exact g, fun a _ _ g => g.elim⟩
    | scr x =>
      cases h
      refine ⟨fun g => ?_, fun a _ _ g => g.elim⟩
      obtain ⟨a, e, h⟩ := isD_scr.mp g
      exact isD_scr.mpr ⟨a, e, h.imp (fun q => ⟨q.1, nh a q.2⟩) id⟩
end
/-- a call in an empty store -/
def callF (F : List Dat → M Dat) (ds : List Dat) : M Dat := fun S => match noLocs ds with
  | true => match F ds [] with
    | .ok d S' => match frz S' 40 d with
      | some e => .ok e S
      | none => .bad
    | .er c fs S' => match frzs (frz S' 40) fs with
      | some es => .er c es S
      | none => .bad
    | .bad => .bad
  | false => .bad
/-- a def that is called in some way -/
def Via (Z : Cz) (n : Nat) (F G : List Dat → M Dat) : Prop := ∀ (Er : ErW) (H : Hp) (p : Pl) (S : List Dat) (vs : List V) (ds : List Dat) (Q : VK) (E : XK), vs.length = n → IsDs Z H p vs ds → IsS Z H p S →
  Post Z Er ExtE (calm (G ds) S) H p (fun d _ H' p' => ∀ v, IsD Z H' p' v d → Q v H') → spD Z n F vs H Q E
section
variable {Z : Cz} {Er : ErW} {O : List Nat} {te ta tb : TE} {ts : TS} {tl : TA} {m m1 m2 : Env → M Dat} {ml : Env → M (List Dat)} {ms : Env → M Flow}
theorem via_id {n : Nat} {F : List Dat → M Dat} : Via Z n F F := fun _ _ _ _ _ _ _ _ hn hd hS q => call_sp hn hd hS q
abbrev allP (p : Pl) : Pl := ⟨[], [], p.γ ++ p.ω ++ p.α⟩
theorem allP_has {p : Pl} {a : Addr} : (allP p).has a ↔ p.has a := by
  unfold Pl.has
  constructor
  · rintro (h | h | h)
    · cases h
    · cases h
    · rcases List.mem_append.mp h with h | h
      · rcases List.mem_append.mp h with h | h
        · exact .inr (.inr h)
        · exact .inr (.inl h)
      · exact .inl h
  · rintro (h | h | h)
    · exact .inr (.inr (List.mem_append_right _ h))
    · exact .inr (.inr (List.mem_append_left _ (List.mem_append_right _ h)))
    · exact .inr (.inr (List.mem_append_left _ (List.mem_append_left _ h)))
theorem allP_s {H : Hp} {p : Pl} {S : List Dat} (s : IsS Z H p S) : IsS Z H (allP p) [] :=
  ⟨rfl, List.nodup_nil, nofun, nofun, fun a h => s.tracked (allP_has.mp (.inr h)), fun n a d h _ => by simp at h⟩
/-- behind a call in an empty store all stands as it stood -/
theorem allP_back {H H' : Hp} {p p' : Pl} {S S' : List Dat} (s : IsS Z H p S) (e : ExtE H (allP p) H' p') (s' : IsS Z H' p' S') : Same H H' ∧ ∀ a, p.has a → p'.has a ∧ a ∉ p'.α := by
  refine ⟨fun b u h => e.k b u h List.not_mem_nil, fun a h => ?_⟩
  have g : a ∈ p'.γ := by
    rw [e.γ]
    rcases allP_has.mpr h with h | h | h
    · cases h
    · cases h
    · exact h
  exact ⟨.inr (.inr g), s'.dg a g⟩
theorem via_F {n : Nat} {F : List Dat → M Dat} : Via Z n F (callF F) := fun Er H p S vs ds Q E hn hd hS q => by
  unfold calm callF at q
  cases nl : noLocs ds with
  | false => rw [nl] at q; exact q.elim
  | true =>
    rw [nl] at q
    refine ⟨hn, allP p, ds, [], rfl, IsDs.still (fun a h => allP_has.mp h) ds nl hd, allP_s hS, ?_⟩
    cases eF : F ds [] with
    | bad => rw [eF] at q; exact q.elim
    | er c fs S' =>
      rw [eF] at q
      dsimp only at q
      split at q
      · rename_i z; split at z <;> cases z
      · exact q.elim
    | ok d S' =>
      rw [eF] at q
      dsimp only at q
      cases ez : frz S' 40 d with
      | none => rw [ez] at q; exact q.elim
      | some e =>
        rw [ez] at q
        intro H' p' ee s v hv
        obtain ⟨sm, hs⟩ := allP_back hS ee s
        exact q H' p (ExtE.same sm) (hS.ext sm) v ((frz_is s hs 40 d e v ez).1 hv)
theorem j_callV {F G : List Dat → M Dat} {n : Nat} {E : XK} (V : Via Z n F G) (hl : JA Z Er O tl ml) (hn : ∀ ρ S ds S', ml ρ S = .ok ds S' → ds.length = n) : JD Z Er O (tCall (spD Z n F) [] E tl) (xCall G ml) := fun σ H p ρ S Q hE hS q => by
  refine hl σ H p ρ S _ hE hS ?_
  have q2 := q.bnd xE
  unfold Post at q2 ⊢
  cases z : ml ρ S with
  | ok ds S1 =>
    rw [z] at q2
    intro H1 p1 e1 s1 vs hv
    have hlen := hn ρ S ds S1 z
    show spD Z n F (vs ++ []) H1 Q E
    rw [List.append_nil]
    exact V Er H1 p1 S1 vs ds Q E (hv.len.trans hlen) hv s1 (q2 H1 p1 e1 s1)
  | er c fs S1 => rw [z] at q2; exact q2
  | bad => rw [z] at q2; exact q2
/-! ### instances, places or not -/
def insD (S : List Dat) : Dat → Option (String × List Str)
  | .obj c fs _ => some (c, fs)
  | .loc n => match S[n]? with
    | some (.obj c fs _) => some (c, fs)
    | _ => none
  | _ => none
theorem zip_lookup {m : Str} : ∀ {fs : List Str} {vs : List V}, fs.contains m = false → (fs.zip vs).lookup m = none
  | [], _, _ => by cases ‹List V› <;> rfl
  | f :: fs, [], _ => rfl
  | f :: fs, v :: vs, h => by
    rw [List.contains_cons, Bool.or_eq_false_iff] at h
    rw [List.zip_cons_cons, List.lookup_cons, h.1]
    exact zip_lookup h.2
theorem ins_is {H : Hp} {p : Pl} {S : List Dat} {v : V} {d : Dat} {c : String} {fs : List Str} (s : IsS Z H p S) (hv : IsD Z H p v d) (e : insD S d = some (c, fs)) : ∃ a dx vs, v = .ref a ∧ H a = some (.ins (Z.κ c) dx (fs.zip vs)) := by
  unfold insD at e
  split at e
  · cases e
    obtain ⟨a, vs, rfl, ⟨⟨dx, h1⟩, _⟩, _, _⟩ := isD_obj.mp hv
    exact ⟨a, dx, vs, rfl, h1⟩
  · split at e
    · rename_i et
      cases e
      obtain ⟨a, rfl, ha⟩ := isD_loc.mp hv
      obtain ⟨dx, vs, h1, _, _⟩ := s.at_ _ a _ ha et
      exact ⟨a, dx, vs, rfl, h1⟩
    · cases e
  · cases e
/-- x.m(..) -/
def xMeth (c : String) (m : Str) (G : List Dat → M Dat) (a : Env → M Dat) (l : Env → M (List Dat)) (ρ : Env) : M Dat := a ρ >>= fun x => fun S => match insD S x with
  | some (c', fs) => match decide (c' = c) && !fs.contains m with
    | true => (l ρ >>= fun ds => calm (G (x :: ds))) S
    | false => .bad
  | none => .bad
theorem j_meth {c : String} {mn : Str} {F G : List Dat → M Dat} {n : Nat} {E : XK} (V : Via Z (n + 1) F G) (ha : JD Z Er O ta m) (hl : JA Z Er O tl ml) (hn : ∀ ρ S ds S', ml ρ S = .ok ds S' → ds.length = n) : JD Z Er O (tMeth (Z.κ c) mn (spD Z (n + 1) F) [] E ta tl) (xMeth c mn G m ml) := fun σ H p ρ S Q hE hS q =>
  ha σ H p ρ S _ hE hS ((q.bnd xE).mono fun d S1 H1 p1 e1 s1 q1 v hv => by
    cases ei : insD S1 d with
    | none => simp only [ei] at q1; exact q1.elim
    | some o =>
      obtain ⟨c', fs⟩ := o
      simp only [ei] at q1
      cases eb : decide (c' = c) && !fs.contains mn with
      | false => rw [eb] at q1; exact q1.elim
      | true =>
        rw [eb] at q1
        dsimp only at q1
        rw [Bool.and_eq_true, decide_eq_true_eq, Bool.not_eq_true'] at eb
        obtain ⟨ec, nm⟩ := eb
        subst ec
        obtain ⟨a, dx, vs, rfl, h1⟩ := ins_is s1 hv ei
        refine ⟨a, dx, _, rfl, h1, zip_lookup nm, ?_⟩
        refine hl σ H1 p1 ρ S1 _ (hE.ext e1 hS) s1 ?_
        have q2 := q1.bnd xE
        unfold Post at q2 ⊢
        cases z : ml ρ S1 with
        | ok ds S2 =>
          rw [z] at q2
          intro H2 p2 e2 s2 ws hw
          have hlen := hn ρ S1 ds S2 z
          rw [List.append_nil]
          exact V Er H2 p2 S2 _ (d :: ds) Q E (by rw [List.length_cons, hw.len, hlen]) (isDs_cons.mpr ⟨_, _, rfl, hv.ext e2.s, hw⟩) s2 (q2 H2 p2 e2 s2)
        | er c fs S1 => rw [z] at q2; exact q2
        | bad => rw [z] at q2; exact q2)
/-- C(..) in some way -/
def MkVia (Z : Cz) (c : String) (n : Nat) (F G : List Dat → M Dat) : Prop := ∀ (Er : ErW) (H : Hp) (p : Pl) (S : List Dat) (vs : List V) (ds : List Dat) (Q : VK) (E : XK), vs.length = n → IsDs Z H p vs ds → IsS Z H p S →
  Post Z Er ExtE (calm (G ds) S) H p (fun d _ H' p' => ∀ v, IsD Z H' p' v d → Q v H') → ∀ x dx, H x = none → H dx = none → dx ≠ x → spD Z (n + 1) F (.ref x :: vs) (L2.upd (L2.upd H dx (.own x)) x (.ins (Z.κ c) dx [])) (fun v H2 => v = .non ∧ Q (.ref x) H2) E
theorem mk_id {c : String} {n : Nat} {F : List Dat → M Dat} : MkVia Z c n F (mkNew c F) := fun Er H p S vs ds Q E hn hd hS q x dx nx nd ne => by
  obtain ⟨e2, s2⟩ := push_loc hS nx nd ne c rfl
  have q3 := q.calm Er
  have q4 : Post Z Er ExtE ((calm (F (.loc S.length :: ds)) >>= fun r => M.need (isNon r) >>= fun _ => pure (Dat.loc S.length)) (S ++ [.obj c [] []])) H p _ := q3
  have q5 := (q4.up xE e2).bnd xE
  have hx : IsD Z (L2.upd (L2.upd H dx (.own x)) x (.ins (Z.κ c) dx [])) ⟨p.α ++ [x], p.ω, p.γ⟩ (.ref x) (.loc S.length) := (isD_loc (Z := Z)).mpr ⟨x, rfl, by rw [← hS.len]; simp⟩
  refine call_sp (S := S ++ [.obj c [] []]) (ds := .loc S.length :: ds) (by rw [List.length_cons, hn]) (isDs_cons.mpr ⟨.ref x, vs, rfl, hx, hd.ext e2.s⟩) s2 (q5.mono fun d S3 H3 p3 e3 s3 q6 v hv3 => ?_)
  obtain ⟨cn, q7⟩ := q6.need
  rw [isNon_is cn] at hv3
  exact ⟨isD_non.mp hv3, q7.pure xE s3 (.ref x) (hx.ext e3.s)⟩
theorem mk_F {c : String} {n : Nat} {F : List Dat → M Dat} : MkVia Z c n F (callF (mkNew c F)) := fun Er H p S vs ds Q E hn hd hS q x dx nx nd ne => by
  unfold calm callF at q
  cases nl : noLocs ds with
  | false => rw [nl] at q; exact q.elim
  | true =>
    rw [nl] at q
    refine mk_id (fun _ _ _ _ _ _ => False) H (allP p) [] vs ds Q E hn (IsDs.still (fun a h => allP_has.mp h) ds nl hd) (allP_s hS) ?_ x dx nx nd ne
    unfold calm
    cases eF : mkNew c F ds [] with
    | bad => rw [eF] at q; exact q.elim
    | er c fs S' =>
      rw [eF] at q
      dsimp only at q
      split at q
      · rename_i z; split at z <;> cases z
      · exact q.elim
    | ok d S' =>
      rw [eF] at q
      dsimp only at q
      cases ez : frz S' 40 d with
      | none => rw [ez] at q; exact q.elim
      | some e =>
        rw [ez] at q
        intro H' p' ee s v hv
        obtain ⟨sm, hs⟩ := allP_back hS ee s
        exact q H' p (ExtE.same sm) (hS.ext sm) v ((frz_is s hs 40 d e v ez).1 hv)
theorem j_makeV {c : String} {F G : List Dat → M Dat} {n : Nat} {E : XK} (V : MkVia Z c n F G) (hl : JA Z Er O tl ml) (hn : ∀ ρ S ds S', ml ρ S = .ok ds S' → ds.length = n) : JD Z Er O (tMake (Z.κ c) (spD Z (n + 1) F) [] E tl) (xCall G ml) := fun σ H p ρ S Q hE hS q => by
  refine hl σ H p ρ S _ hE hS ?_
  have q2 := q.bnd xE
  unfold Post at q2 ⊢
  cases z : ml ρ S with
  | ok ds S1 =>
    rw [z] at q2
    intro H1 p1 e1 s1 vs hv x dx nx nd ne
    have hlen := hn ρ S ds S1 z
    rw [List.append_nil]
    exact V Er H1 p1 S1 vs ds Q E (hv.len.trans hlen) hv s1 (q2 H1 p1 e1 s1) x dx nx nd ne
  | er c fs S1 => rw [z] at q2; exact q2
  | bad => rw [z] at q2; exact q2
/-- x op y, both instances of the class -/
def dOwn2 (c : String) (G : List Dat → M Dat) (d e : Dat) : M Dat := fun S => match insD S d, insD S e with
  | some (c1, _), some (c2, _) => match decide (c1 = c) && decide (c2 = c) with
    | true => calm (G [d, e]) S
    | false => .bad
  | _, _ => .bad
theorem r_own2 {c : String} {F G : List Dat → M Dat} {E : XK} (V : Via Z 2 F G) : JRD Z (rOwnI (Z.κ c) (spD Z 2 F) E) (dOwn2 c G) := fun x y d e Er H p S Q hx hy s q => by
  unfold dOwn2 at q
  cases e1 : insD S d with
  | none => simp only [e1] at q; exact q.elim
  | some o1 =>
    cases e2 : insD S e with
    | none => simp only [e1, e2] at q; exact q.elim
    | some o2 =>
      obtain ⟨c1, f1⟩ := o1
      obtain ⟨c2, f2⟩ := o2
      simp only [e1, e2] at q
      cases eb : decide (c1 = c) && decide (c2 = c) with
      | false => rw [eb] at q; exact q.elim
      | true =>
        rw [eb] at q
        rw [Bool.and_eq_true, decide_eq_true_eq, decide_eq_true_eq] at eb
        obtain ⟨k1, k2⟩ := eb
        subst k1 k2
        obtain ⟨a, dx, vs, rfl, ha⟩ := ins_is s hx e1
        obtain ⟨b, dy, ws, rfl, hb⟩ := ins_is s hy e2
        exact ⟨a, dx, _, b, dy, _, rfl, rfl, ha, hb, V Er H p S _ [d, e] Q E rfl (isDs_cons.mpr ⟨_, _, rfl, hx, .one hy⟩) s q⟩
/-- isinstance(x, C), x an instance of C -/
def dIsiI (c : String) (ds : List Dat) : M Dat := fun S => match ds with
  | [d, .cls c'] => match insD S d with
    | some (c1, _) => match decide (c' = c) && decide (c1 = c) with
      | true => .ok (.bl true) S
      | false => .bad
    | none => .bad
  | _ => .bad
theorem c_isiI {c : String} (T : InsT Z c) : JC Z (IsDs Z) (IsD Z) (rIsi Z.K) (dIsiI c) := fun x d Er H p S Q hx s q => by
  unfold dIsiI at q
  split at q
  · rename_i d c'
    cases ei : insD S d with
    | none => simp only [ei] at q; exact q.elim
    | some o =>
      obtain ⟨c1, fs⟩ := o
      simp only [ei] at q
      cases eb : decide (c' = c) && decide (c1 = c) with
      | false => rw [eb] at q; exact q.elim
      | true =>
        rw [eb] at q
        rw [Bool.and_eq_true, decide_eq_true_eq, decide_eq_true_eq] at eb
        obtain ⟨ec, e1⟩ := eb
        subst e1
        obtain ⟨v, w, rfl, h1, h2⟩ := isDs_two hx
        rw [ec] at h2
        obtain ⟨a, dx, vs, rfl, ha⟩ := ins_is s h1 ei
        have hw : w = .ref (Z.κ c1) := by unfold IsD at h2; exact h2
        subst hw
        exact ⟨.ref a, .ref (Z.κ c1), _, _, true, rfl, .own _, .base (.ins ha T.cl T.ha T.hn T.htk T.hm), T.me, q H p xE.refl s _ (isD_bl.mpr rfl)⟩
  · exact q.elim
/-- a field, of a place or not -/
def dFldI (c : String) (f : Str) (d : Dat) : M Dat := fun S => match d with
  | .obj c' fs ds => match decide (c' = c) with
    | true => match lkD f fs ds with
      | some x => .ok x S
      | none => .bad
    | false => .bad
  | .loc n => match S[n]? with
    | some (.obj c' fs ds) => match decide (c' = c) with
      | true => match lkD f fs ds with
        | some x => .ok x S
        | none => .bad
      | false => .bad
    | _ => .bad
  | _ => .bad
theorem j_fldI {c : String} {f : Str} {fs : List Str} (T : ClsT Z c fs) (hf : f ∈ fs) (h : JD Z Er O ta m) : JD Z Er O (tFld Z.K ta f) (xUn (dFldI c f) m) := fun σ H p ρ S Q hE hS q =>
  h σ H p ρ S _ hE hS ((q.bnd xE).mono fun d S1 H1 p1 e1 s1 q1 v hv => by
    have key : ∀ (a dx : Addr) (c' : String) (gs : List Str) (ds : List Dat) (vs : List V), v = .ref a → H1 a = some (.ins (Z.κ c') dx (gs.zip vs)) → IsDs Z H1 p1 vs ds →
        Post Z Er ExtE (match decide (c' = c) with | true => (match lkD f gs ds with | some x => .ok x S1 | none => .bad) | false => .bad) H1 p1 (fun a _ H' p' => ∀ b, IsD Z H' p' b a → Q b H') → ∃ a C dx fs w, v = .ref a ∧ H1 a = some (.ins C dx fs) ∧ Cls Z.K C ∧ NoAttr Z.K C f ∧ fs.lookup f = some w ∧ Q w H1 := fun a dx c' gs ds vs ev ha hds z => by
      cases eb : decide (c' = c) with
      | false => rw [eb] at z; exact z.elim
      | true =>
        rw [eb] at z
        dsimp only at z
        have ec := of_decide_eq_true eb
        rw [ec] at ha
        cases el : lkD f gs ds with
        | none => rw [el] at z; exact z.elim
        | some x =>
          rw [el] at z
          obtain ⟨w, g1, g2⟩ := lk_rel hds el
          exact ⟨a, _, dx, _, w, ev, ha, T.cl, T.no f hf, g1, z H1 p1 xE.refl s1 w g2⟩
    unfold dFldI at q1
    cases d with
    | obj c' gs ds =>
      obtain ⟨a, vs, ev, ⟨⟨dx, ha⟩, _⟩, _, hds⟩ := isD_obj.mp hv
      exact key a dx c' gs ds vs ev ha hds q1
    | loc n =>
      dsimp only at q1
      split at q1
      · rename_i c' gs ds et
        obtain ⟨a, ev, ha⟩ := isD_loc.mp hv
        obtain ⟨dx, vs, h1, _, hds⟩ := s1.at_ n a _ ha et
        exact key a dx c' gs ds vs ev h1 hds q1
      · exact q1.elim
    | _ => exact q1.elim)
end
end Zd

namespace Zd
open PySem PySem.Spec PyProof.Rows L2
/-! ### new places, dicts and lists that are places -/
def putKN (k : Key) (ks : List Key) : List Key := if (ks.any fun g => decide (g = k)) = true then ks else ks ++ [k]
def setKV (k : Key) (x : Dat) : List Key → List Dat → List Dat
  | g :: gs, d :: ds => (if g = k then x else d) :: setKV k x gs ds
  | _, _ => []
def putKV (k : Key) (x : Dat) (ks : List Key) (ds : List Dat) : List Dat := if (ks.any fun g => decide (g = k)) = true then setKV k x ks ds else ds ++ [x]
def dropDs (k : Key) : List Key → List Dat → List Dat
  | g :: gs, d :: ds => if g = k then dropDs k gs ds else d :: dropDs k gs ds
  | _, _ => []
section
variable {Z : Cz} {Er : ErW} {O : List Nat} {te ta tb tc : TE} {ts : TS} {tl : TA} {tt : TT} {m m1 m2 m3 : Env → M Dat} {mb : Env → M Bool} {ml : Env → M (List Dat)} {ms : Env → M Flow}
theorem any_zip {k : Key} : ∀ {ks : List Key} {vs : List V}, ks.length = vs.length → ((ks.zip vs).any fun kv => decide (kv.1 = k)) = ks.any fun g => decide (g = k)
  | [], _, _ => rfl
  | g :: gs, v :: vs, h => by
    rw [List.zip_cons_cons, List.any_cons, List.any_cons, any_zip (Nat.succ.inj h)]
theorem setKV_rel {H : Hp} {p : Pl} {k : Key} {x : Dat} {y : V} (hx : IsD Z H p y x) : ∀ {ks : List Key} {ds : List Dat} {vs : List V}, ks.length = vs.length → IsDs Z H p vs ds → ∃ ws, ((ks.zip vs).map fun kv => if kv.1 = k then (kv.1, y) else kv) = ks.zip ws ∧ ks.length = ws.length ∧ IsDs Z H p ws (setKV k x ks ds)
  | [], ds, vs, hl, h => by
    have e : vs = [] := List.length_eq_zero_iff.mp hl.symm
    subst e
    exact ⟨[], rfl, rfl, by cases ds <;> exact isDs_nil.mpr rfl⟩
  | g :: gs, [], vs, hl, h => by rw [isDs_nil.mp h] at hl; cases hl
  | g :: gs, c :: ds, _, hl, h => by
    obtain ⟨v, r, rfl, h1, h2⟩ := isDs_cons.mp h
    obtain ⟨ws, e1, e2, e3⟩ := setKV_rel (k := k) hx (Nat.succ.inj hl) h2
    by_cases q : g = k
    · refine ⟨y :: ws, ?_, by rw [List.length_cons, List.length_cons, e2], ?_⟩
      · rw [List.zip_cons_cons, List.map_cons, e1, List.zip_cons_cons]
        dsimp only
        rw [if_pos q]
      · unfold setKV
        rw [if_pos q]
        exact isDs_cons.mpr ⟨y, ws, rfl, hx, e3⟩
    · refine ⟨v :: ws, ?_, by rw [List.length_cons, List.length_cons, e2], ?_⟩
      · rw [List.zip_cons_cons, List.map_cons, e1, List.zip_cons_cons]
        dsimp only
        rw [if_neg q]
      · unfold setKV
        rw [if_neg q]
        exact isDs_cons.mpr ⟨v, ws, rfl, h1, e3⟩
theorem putK_rel {H : Hp} {p : Pl} {k : Key} {x : Dat} {y : V} (hx : IsD Z H p y x) {ks : List Key} {ds : List Dat} {vs : List V} (hl : ks.length = vs.length) (h : IsDs Z H p vs ds) : ∃ ws, putK (ks.zip vs) k y = (putKN k ks).zip ws ∧ (putKN k ks).length = ws.length ∧ IsDs Z H p ws (putKV k x ks ds) := by
  unfold putK putKN putKV
  rw [any_zip hl]
  by_cases c : (ks.any fun g => decide (g = k)) = true
  · rw [if_pos c, if_pos c, if_pos c]
    exact setKV_rel hx hl h
  · rw [if_neg c, if_neg c, if_neg c]
    refine ⟨vs ++ [y], ?_, by rw [List.length_append, List.length_append, hl]; rfl, h.append (.one hx)⟩
    rw [List.zip_append hl]
    rfl
theorem dropK_rel {H : Hp} {p : Pl} {k : Key} : ∀ {ks : List Key} {ds : List Dat} {vs : List V}, ks.length = vs.length → IsDs Z H p vs ds → ∃ ws, dropK (ks.zip vs) k = (ks.filter fun g => decide (g ≠ k)).zip ws ∧ (ks.filter fun g => decide (g ≠ k)).length = ws.length ∧ IsDs Z H p ws (dropDs k ks ds)
  | [], ds, vs, hl, h => by
    have e : vs = [] := List.length_eq_zero_iff.mp hl.symm
    subst e
    exact ⟨[], rfl, rfl, by cases ds <;> exact isDs_nil.mpr rfl⟩
  | g :: gs, [], vs, hl, h => by rw [isDs_nil.mp h] at hl; cases hl
  | g :: gs, c :: ds, _, hl, h => by
    obtain ⟨v, r, rfl, h1, h2⟩ := isDs_cons.mp h
    obtain ⟨ws, e1, e2, e3⟩ := dropK_rel (k := k) (Nat.succ.inj hl) h2
    unfold dropK at e1 ⊢
    by_cases q : g = k
    · refine ⟨ws, ?_, ?_, ?_⟩
      · rw [List.zip_cons_cons, List.filter_cons_of_neg (by simpa using q), List.filter_cons_of_neg (by simpa using q), e1]
      · rw [List.filter_cons_of_neg (by simpa using q), e2]
      · unfold dropDs
        rw [if_pos q]
        exact e3
    · refine ⟨v :: ws, ?_, ?_, ?_⟩
      · rw [List.zip_cons_cons, List.filter_cons_of_pos (by simpa using q), List.filter_cons_of_pos (by simpa using q), List.zip_cons_cons, e1]
      · rw [List.filter_cons_of_pos (by simpa using q), List.length_cons, List.length_cons, e2]
      · unfold dropDs
        rw [if_neg q]
        exact isDs_cons.mpr ⟨v, ws, rfl, h1, e3⟩
/-- a new object becomes a place -/
def xNewLo (a : Env → M Dat) (ρ : Env) : M Dat := a ρ >>= fun d => fun S => .ok (.loc S.length) (S ++ [d])
theorem j_newLo (h : JF Z Er O ta m) : JD Z Er O ta (xNewLo m) := fun σ H p ρ S Q hE hS q =>
  h σ H p ρ S _ hE hS (q.bndK.mono fun d S1 H1 p1 e1 s1 q1 a na na1 nh hs ht => by
    have q2 : ∀ H' p', ExtE H p H' p' → IsS Z H' p' (S1 ++ [d]) → ∀ b, IsD Z H' p' b (.loc S1.length) → Q b H' := q1
    have l2 : ∀ b, (⟨p1.α ++ [a], p1.ω, p1.γ⟩ : Pl).has b → (⟨p1.α, p1.ω ++ [a], p1.γ⟩ : Pl).has b := fun b h => by
      rcases h with h | h | h
      · rcases List.mem_append.mp h with h | h
        · exact .inl h
        · exact .inr (.inl (List.mem_append_right _ h))
      · exact .inr (.inl (List.mem_append_left _ h))
      · exact .inr (.inr h)
    have na1 : a ∉ p1.α := fun z => nh (.inl z)
    have hα : (p1.α ++ [a])[S1.length]? = some a := by rw [← hs.len]; simp
    refine q2 H1 ⟨p1.α ++ [a], p1.ω, p1.γ⟩ ⟨?_, e1.ω, e1.γ, fun b u z n => e1.k b u z n, e1.t⟩ ⟨?_, ?_, fun b h => ⟨fun z => ?_, (hs.dj b (List.mem_append_left _ h)).2⟩, fun b h z => ?_, fun b h => hs.wt b (h.imp (List.mem_append_left _) id), fun n b x h1 h2 => ?_⟩ (.ref a) ?_
    · obtain ⟨β, g1, g2⟩ := e1.α
      refine ⟨β ++ [a], by rw [g1, List.append_assoc], fun b h => ?_⟩
      rcases List.mem_append.mp h with h | h
      · exact g2 b h
      · rw [List.mem_singleton.mp h]; exact na
    · rw [List.length_append, List.length_append, hs.len]; rfl
    · exact List.nodup_append.mpr ⟨hs.nd, by simp, fun b h c h2 e => na1 (by rw [← List.mem_singleton.mp h2, ← e]; exact h)⟩
    · rcases List.mem_append.mp z with z | z
      · exact (hs.dj b (List.mem_append_left _ h)).1 z
      · exact nh (.inr (.inl (by rw [← List.mem_singleton.mp z]; exact h)))
    · rcases List.mem_append.mp z with z | z
      · exact hs.dg b h z
      · exact nh (.inr (.inr (by rw [← List.mem_singleton.mp z]; exact h)))
    · have mv : ∀ (n : Nat) (x : Addr), p1.α[n]? = some x → (p1.α ++ [a])[n]? = some x := fun n x h => by
        rw [List.getElem?_append_left (List.getElem?_eq_some_iff.mp h).1]; exact h
      by_cases c : n < S1.length
      · rw [List.getElem?_append_left c] at h2
        rw [List.getElem?_append_left (by rw [hs.len]; exact c)] at h1
        exact IsTop.mv (p := ⟨p1.α, p1.ω ++ [a], p1.γ⟩) (p' := ⟨p1.α ++ [a], p1.ω, p1.γ⟩) mv l2 (hs.at_ n b x h1 h2)
      · have lt := (List.getElem?_eq_some_iff.mp h2).1
        rw [List.length_append, List.length_singleton] at lt
        have e : n = S1.length := by omega
        subst e
        rw [hα] at h1
        cases h1
        rw [List.getElem?_append_right (Nat.le_refl _), Nat.sub_self] at h2
        cases h2
        exact IsTop.mv (p := ⟨p1.α, p1.ω ++ [a], p1.γ⟩) (p' := ⟨p1.α ++ [a], p1.ω, p1.γ⟩) mv l2 ht
    · exact (isD_loc (Z := Z) (H := H1) (p := ⟨p1.α ++ [a], p1.ω, p1.γ⟩)).mpr ⟨a, rfl, hα⟩)
/-- list(x), dict(x): new objects -/
abbrev rListOf (K : PySem.W.Frag) : List V → Hp → VK → Prop := fun xs H Q => ∃ p ys, xs = [.ref p] ∧ (SqL K H p ys ∨ SqT K H p ys) ∧ ∀ l, H l = none → Q (.ref l) (L2.upd H l (.lst ys))
abbrev rDictOf : List V → Hp → VK → Prop := fun xs H Q => ∃ (a : Addr) (kvs : List (Key × V)), xs = [.ref a] ∧ Rd H a (.dK kvs) ∧ ∀ p, H p = none → Q (.ref p) (L2.upd H p (.dK kvs))
def dDictOf (ds : List Dat) : M Dat := match ds with
  | [.dic ks ds] => pure (.dic ks ds)
  | _ => M.no
theorem jf_list (hl : JA Z Er O tl ml) : JF Z Er O (tCB (rListOf Z.K) tl) (xCB dList ml) := fun σ H p ρ S Q hE hS q =>
  hl σ H p ρ S _ hE hS ((q.bnd xE).mono fun ds S1 H1 p1 e1 s1 q1 vs hv => by
    have key : ∀ (a : Addr) (us : List V) (es : List Dat), (SqL Z.K H1 a us ∨ SqT Z.K H1 a us) → IsDs Z H1 p1 us es → vs = [.ref a] → Post Z Er ExtE ((pure (Dat.lst es) : M Dat) S1) H1 p1 (fun d S' H' p' => ∀ a, H a = none → H' a ≠ none → ¬ p'.has a → IsS Z H' ⟨p'.α, p'.ω ++ [a], p'.γ⟩ S' → IsTop Z H' ⟨p'.α, p'.ω ++ [a], p'.γ⟩ a d → Q (.ref a) H') → rListOf Z.K vs H1 Q := fun a us es h1 h2 ev q => ⟨a, us, ev, h1, fun l nl => by
      refine q.at_new s1 nl l (back_of e1.t nl) (by rw [upd_same]; exact nofun) (no_has s1 nl) (own_new (hE.ext e1 hS) s1 nl).2 ⟨us, upd_same, ?_⟩
      exact h2.ext (ExtC.plus (ExtE.new nl) nl).s⟩
    unfold dList at q1
    split at q1
    · obtain ⟨v, rfl, hv1⟩ := isDs_one hv
      obtain ⟨a, us, rfl, h1, h2⟩ := isD_lst.mp hv1
      exact key a us _ (.inl h1.sq) h2 rfl q1
    · obtain ⟨v, rfl, hv1⟩ := isDs_one hv
      obtain ⟨a, us, rfl, h1, h2⟩ := isD_tup.mp hv1
      exact key a us _ (.inr h1.sq) h2 rfl q1
    · exact (bad_no (S := S1) q1).elim)
theorem jf_dictOf (hl : JA Z Er O tl ml) : JF Z Er O (tCB rDictOf tl) (xCB dDictOf ml) := fun σ H p ρ S Q hE hS q =>
  hl σ H p ρ S _ hE hS ((q.bnd xE).mono fun ds S1 H1 p1 e1 s1 q1 vs hv => by
    unfold dDictOf at q1
    split at q1
    · obtain ⟨v, rfl, hv1⟩ := isDs_one hv
      obtain ⟨a, us, rfl, h1, hlen, h2⟩ := isD_dic.mp hv1
      refine ⟨a, _, rfl, .inl h1.1, fun l nl => ?_⟩
      refine q1.at_new s1 nl l (back_of e1.t nl) (by rw [upd_same]; exact nofun) (no_has s1 nl) (own_new (hE.ext e1 hS) s1 nl).2 ⟨us, upd_same, hlen, ?_⟩
      exact h2.ext (ExtC.plus (ExtE.new nl) nl).s
    · exact (bad_no (S := S1) q1).elim)
/-- tuple(x), len(x): x a list that is a place -/
def dTupleLo (ds : List Dat) : M Dat := fun S => match ds with
  | [.loc n] => match S[n]? with
    | some (.lst xs) => .ok (.tup xs) S
    | _ => .bad
  | _ => .bad
theorem c_tupleLo : JC Z (IsDs Z) (IsD Z) (fun xs H Q => ∃ p ys, xs = [.ref p] ∧ ((SqL Z.K H p ys ∧ ∀ l, H l = none → Q (.ref l) (L2.upd H l (.tup ys))) ∨ (SqT Z.K H p ys ∧ Q (.ref p) H))) dTupleLo := fun x d Er H p S Q hx s q => by
  unfold dTupleLo at q
  split at q
  · split at q
    · rename_i n _ xs et
      obtain ⟨v, rfl, hv⟩ := isDs_one hx
      obtain ⟨a, rfl, ha⟩ := isD_loc.mp hv
      obtain ⟨vs, h1, h2⟩ := s.at_ n a _ ha et
      refine ⟨a, vs, rfl, .inl ⟨SqL.of h1, fun t nt => ?_⟩⟩
      exact (show Post Z Er ExtE ((pure (Dat.tup xs) : M Dat) S) H p _ from q).at_new s nt _ (new_tup s nt h2)
    · exact q.elim
  · exact q.elim
/-- x.append(e), x a place -/
def isLst (S : List Dat) (n : Nat) : Bool := match S[n]? with
  | some (.lst _) => true
  | _ => false
def needL (n : Nat) : M Unit := fun S => match isLst S n with
  | true => .ok () S
  | false => .bad
def appLo (n : Nat) (d : Dat) (ρ : Env) : M Flow := fun S => match S[n]? with
  | some (.lst xs) => match decide (xs.length < 100000) with
    | true => .ok (.nx ρ) (S.set n (.lst (xs ++ [d])))
    | false => .bad
  | _ => .bad
def sAppLo (o : Env → M Dat) (l : Env → M (List Dat)) (ρ : Env) : M Flow := o ρ >>= fun y => M.opt (dLoc y) >>= fun n => needL n >>= fun _ => l ρ >>= fun ds => M.opt (one ds) >>= fun d => appLo n d ρ
theorem js_appLo (ho : JD Z Er O ta m) (hl : JA Z Er O tl ml) : JS Z Er O (tDrop (tBM Z.K "list" rAppend ta tl)) (sAppLo m ml) := fun σ H p ρ S D hE hS q =>
  ho σ H p ρ S _ hE hS (q.bndE.mono fun o S1 H1 p1 e1 s1 q1 v hv => by
    obtain ⟨n, en, q1⟩ := Post.opt q1
    rw [dLoc_is en] at hv
    obtain ⟨a, rfl, ha⟩ := isD_loc.mp hv
    have hE1 := hE.ext e1 hS
    have nl : ∀ b, isLst S1 n = b → needL n S1 = (match b with | true => .ok () S1 | false => .bad) := fun b e => by unfold needL; rw [e]
    rw [m_bind] at q1
    cases ei : isLst S1 n with
    | false => rw [nl _ ei] at q1; exact q1.elim
    | true =>
      rw [nl _ ei] at q1
      have q2 : Post Z Er Ext ((ml ρ >>= fun ds => M.opt (one ds) >>= fun d => appLo n d ρ) S1) H1 p1 (fun f _ H' p' => FlowOk Z O D f H' p') := q1
      have ty : ∃ vs, H1 a = some (.lst vs) := by
        unfold isLst at ei
        split at ei
        · rename_i xs et
          obtain ⟨vs, h1, _⟩ := s1.at_ n a _ ha et
          exact ⟨vs, h1⟩
        · cases ei
      obtain ⟨vs0, h0⟩ := ty
      refine ⟨.inl ⟨rfl, _, SqL.of h0⟩, hl σ H1 p1 ρ S1 _ hE1 s1 (q2.bndE.mono fun ds S2 H2 p2 e2 s2 q3 ws hws => ?_)⟩
      obtain ⟨d, e1d, q3⟩ := Post.opt q3
      rw [one_is e1d] at hws
      obtain ⟨w, rfl, hw⟩ := isDs_one hws
      have hα : p2.α[n]? = some a := by
        obtain ⟨β, g1, _⟩ := e2.α
        rw [g1, List.getElem?_append_left (List.getElem?_eq_some_iff.mp ha).1]
        exact ha
      unfold appLo at q3
      split at q3
      · rename_i xs et
        cases eb : decide (xs.length < 100000) with
        | false => rw [eb] at q3; exact q3.elim
        | true =>
          rw [eb] at q3
          have c := of_decide_eq_true eb
          obtain ⟨vs, g1, g2⟩ := s2.at_ n a _ hα et
          have sz := sizeLine_eq
          refine ⟨a, vs, w, rfl, rfl, g1, by rw [g2.len]; omega, ?_⟩
          obtain ⟨e3, s3⟩ := loc_put (o := .lst (vs ++ [w])) (d := .lst (xs ++ [d])) s2 hα ⟨vs ++ [w], upd_same, (g2.append (.one hw)).ext (loc_ext (List.mem_of_getElem? hα))⟩
          exact q3 _ _ e3.s s3 σ ((hE1.ext e2 s1).ext e3 s2)
      · exact q3.elim)
/-- d[k] = e, d a place -/
def putLo (n : Nat) (k : Key) (x : Dat) (ρ : Env) : M Flow := fun S => match S[n]? with
  | some (.dic ks ds) => match decide (ks.length < 100000) with
    | true => .ok (.nx ρ) (S.set n (.dic (putKN k ks) (putKV k x ks ds)))
    | false => .bad
  | _ => .bad
def sDPutLo (o b a : Env → M Dat) (ρ : Env) : M Flow := a ρ >>= fun x => o ρ >>= fun y => M.opt (dLoc y) >>= fun n => b ρ >>= fun z => M.opt (keyD z) >>= fun k => putLo n k x ρ
theorem js_dputLo (ho : JD Z Er O ta m1) (hb : JD Z Er O tb m2) (ha : JD Z Er O tc m3) : JS Z Er O (sDPut ta tb tc) (sDPutLo m1 m2 m3) := fun σ H p ρ S D hE hS q =>
  ha σ H p ρ S _ hE hS (q.bndE.mono fun x S1 H1 p1 e1 s1 q1 v hv => ho σ H1 p1 ρ S1 _ (hE.ext e1 hS) s1 (q1.bndE.mono fun o S2 H2 p2 e2 s2 q2 w hw => by
    obtain ⟨n, en, q2⟩ := Post.opt q2
    rw [dLoc_is en] at hw
    refine hb σ H2 p2 ρ S2 _ ((hE.ext e1 hS).ext e2 s1) s2 (q2.bndE.mono fun z S3 H3 p3 e3 s3 q3 u hu => ?_)
    obtain ⟨k, ek, q3⟩ := Post.opt q3
    obtain ⟨a, rfl, hα⟩ := isD_loc.mp (hw.ext e3.s)
    unfold putLo at q3
    split at q3
    · rename_i ks ds et
      cases eb : decide (ks.length < 100000) with
      | false => rw [eb] at q3; exact q3.elim
      | true =>
        rw [eb] at q3
        have c := of_decide_eq_true eb
        obtain ⟨vs, g1, gl, g2⟩ := s3.at_ n a _ hα et
        have sz := sizeLine_eq
        obtain ⟨ws, k1, k2, k3⟩ := putK_rel (k := k) ((hv.ext e2.s).ext e3.s) gl g2
        refine ⟨a, _, rfl, .inl ⟨_, k, g1, keyD_is hu ek, by rw [List.length_zip, ← gl, Nat.min_self]; omega, rfl⟩, ?_⟩
        rw [k1]
        obtain ⟨e4, s4⟩ := loc_put (o := .dK ((putKN k ks).zip ws)) (d := .dic (putKN k ks) (putKV k x ks ds)) s3 hα ⟨ws, upd_same, k2, k3.ext (loc_ext (List.mem_of_getElem? hα))⟩
        exact q3 _ _ e4.s s4 σ ((((hE.ext e1 hS).ext e2 s1).ext e3 s2).ext e4 s3)
    · exact q3.elim))
/-- del d[k] -/
def delLo (n : Nat) (k : Key) (ρ : Env) : M Flow := fun S => match S[n]? with
  | some (.dic ks ds) => match (lkK k ks ds).isSome with
    | true => .ok (.nx ρ) (S.set n (.dic (ks.filter fun g => decide (g ≠ k)) (dropDs k ks ds)))
    | false => .bad
  | _ => .bad
def sDDelLo (o b : Env → M Dat) (ρ : Env) : M Flow := o ρ >>= fun y => M.opt (dLoc y) >>= fun n => b ρ >>= fun z => M.opt (keyD z) >>= fun k => delLo n k ρ
theorem js_ddelLo (ho : JD Z Er O ta m1) (hb : JD Z Er O tb m2) : JS Z Er O (sDDel ta tb) (sDDelLo m1 m2) := fun σ H p ρ S D hE hS q =>
  ho σ H p ρ S _ hE hS (q.bndE.mono fun o S2 H2 p2 e2 s2 q2 w hw => by
    obtain ⟨n, en, q2⟩ := Post.opt q2
    rw [dLoc_is en] at hw
    refine hb σ H2 p2 ρ S2 _ (hE.ext e2 hS) s2 (q2.bndE.mono fun z S3 H3 p3 e3 s3 q3 u hu => ?_)
    obtain ⟨k, ek, q3⟩ := Post.opt q3
    obtain ⟨a, rfl, hα⟩ := isD_loc.mp (hw.ext e3.s)
    unfold delLo at q3
    split at q3
    · rename_i ks ds et
      cases eb : (lkK k ks ds).isSome with
      | false => rw [eb] at q3; exact q3.elim
      | true =>
        rw [eb] at q3
        obtain ⟨vs, g1, gl, g2⟩ := s3.at_ n a _ hα et
        obtain ⟨x, ex⟩ := Option.isSome_iff_exists.mp eb
        obtain ⟨y, g3, _⟩ := lkK_rel g2 ex
        obtain ⟨ws, k1, k2, k3⟩ := dropK_rel (k := k) gl g2
        refine ⟨a, _, k, rfl, g1, keyD_is hu ek, by rw [g3]; rfl, ?_⟩
        rw [k1]
        obtain ⟨e4, s4⟩ := loc_put (o := .dK ((ks.filter fun g => decide (g ≠ k)).zip ws)) (d := .dic (ks.filter fun g => decide (g ≠ k)) (dropDs k ks ds)) s3 hα ⟨ws, upd_same, k2, k3.ext (loc_ext (List.mem_of_getElem? hα))⟩
        exact q3 _ _ e4.s s4 σ (((hE.ext e2 hS).ext e3 s2).ext e4 s3)
    · exact q3.elim)
/-- {k: e for x in xs} -/
def dcD (g : Env → Dat → Option Env) (c : Env → M Bool) (kx e : Env → M Dat) (ρ : Env) : List Dat → List Key → List Dat → M Dat
  | [], ks, es => pure (.dic ks es)
  | d :: ds, ks, es => M.opt (g ρ d) >>= fun ρ1 => c ρ1 >>= fun b => if b = true then kx ρ1 >>= fun y => M.opt (keyD y) >>= fun k => e ρ1 >>= fun x => M.need (decide (ks.length < 100000)) >>= fun _ => dcD g c kx e ρ ds (putKN k ks) (putKV k x ks es) else dcD g c kx e ρ ds ks es
def xDc (it : Env → M (List Dat)) (g : Env → Dat → Option Env) (c : Env → M Bool) (kx e : Env → M Dat) (vs : List Nat) (ρ : Env) : M Dat := it ρ >>= fun ds => dcD g c kx e (wipeE ρ vs) ds [] []
theorem jf_dc {wi : TI} {it : Env → M (List Dat)} {g : TG} {gm : Env → Dat → Option Env} {vs : List Nat} {tk : TE} {mk : Env → M Dat} (hi : JI Z Er O ExtC wi it) (hg : JG Z O g gm (some vs)) (hc : JB Z Er O tt mb) (hk : JD Z Er O tk mk) (he : JD Z Er O te m) : JF Z Er O (tDc wi g tt tk te vs) (xDc it gm mb mk m vs) := fun σ H p ρ S Q hE hS q =>
  hi σ H p ρ S _ hE hS ((q.bnd xE).mono fun ds S1 H1 p1 e1 s1 q2 Jt hJ => by
    have sz := sizeLine_eq
    intro D nD
    have hE1 := hE.ext e1 hS
    have noD : ∀ i ∈ O, σ[i]? ≠ some (some (.ref D)) ∨ ρ[i]? = none ∨ ρ[i]? = some none := fun i oi => by
      cases z : ρ[i]? with
      | none => exact .inr (.inl rfl)
      | some w =>
        cases w with
        | none => exact .inr (.inr rfl)
        | some d =>
          left
          obtain ⟨a, h1, h2, h3⟩ := hE1.own i d oi z
          rw [h1]
          intro c
          cases c
          exact s1.wt D (.inl h2) nD
    refine ⟨fun i n H' => n = ds.length - i ∧ i ≤ ds.length ∧ ∃ α' S' ks acc es, IsE Z O H' ⟨α', p1.ω ++ [D], p1.γ⟩ σ ρ ∧ IsS Z H' ⟨α', p1.ω ++ [D], p1.γ⟩ S' ∧ H' D = some (.dK (ks.zip acc)) ∧ ks.length = acc.length ∧ IsDs Z H' ⟨α', p1.ω ++ [D], p1.γ⟩ acc es ∧ ExtE H1 p1 H' ⟨α', p1.ω, p1.γ⟩ ∧
        Post Z Er ExtE (dcD gm mb mk m (wipeE ρ vs) (ds.drop i) ks es S') H1 p1 (fun d S'' H'' p'' => ∀ a, H a = none → H'' a ≠ none → ¬ p''.has a → IsS Z H'' ⟨p''.α, p''.ω ++ [a], p''.γ⟩ S'' → IsTop Z H'' ⟨p''.α, p''.ω ++ [a], p''.γ⟩ a d → Q (.ref a) H''), ?_, ?_⟩
    · obtain ⟨hE2, hS2⟩ := own_new (o := .dK []) hE1 s1 nD
      exact ⟨_, rfl, Nat.zero_le _, p1.α, S1, [], [], [], hE2, hS2, upd_same, rfl, isDs_nil.mpr rfl, ExtE.new nD, q2⟩
    · rintro i n H' ⟨rfl, le, α', S', ks, acc, es, hE', hS', hD, la, hacc, ex, q'⟩
      have mD : D ∈ p1.ω ++ [D] := List.mem_append_right _ (List.mem_singleton.mpr rfl)
      have exC : ExtC H1 p1 H' ⟨α', p1.ω ++ [D], p1.γ⟩ := ExtC.plus ex nD
      by_cases lt : i < ds.length
      · have W := (hJ H' _ S' i exC hS').1 lt
        refine .inr ⟨W.1, fun H2 => ∃ α' S' ks acc es, IsE Z O H2 ⟨α', p1.ω ++ [D], p1.γ⟩ σ ρ ∧ IsS Z H2 ⟨α', p1.ω ++ [D], p1.γ⟩ S' ∧ H2 D = some (.dK (ks.zip acc)) ∧ ks.length = acc.length ∧ IsDs Z H2 ⟨α', p1.ω ++ [D], p1.γ⟩ acc es ∧ ExtE H1 p1 H2 ⟨α', p1.ω, p1.γ⟩ ∧
            Post Z Er ExtE (dcD gm mb mk m (wipeE ρ vs) (ds.drop (i + 1)) ks es S') H1 p1 (fun d S'' H'' p'' => ∀ a, H a = none → H'' a ≠ none → ¬ p''.has a → IsS Z H'' ⟨p''.α, p''.ω ++ [a], p''.γ⟩ S'' → IsTop Z H'' ⟨p''.α, p''.ω ++ [a], p''.γ⟩ a d → Q (.ref a) H''),
          fun H2 ⟨a, b, c, d, r⟩ => ⟨_, by omega, rfl, lt, a, b, c, d, r⟩, fun x Hx y => ?_⟩
        obtain ⟨sm, d, ed, hd⟩ := W.2 x Hx y
        have ed' : ds[i] = d := by
          rw [List.getElem?_eq_getElem lt] at ed
          exact Option.some.inj ed
        rw [drop_cons lt, ed'] at q'
        have eN : ∀ p, ExtE H' p Hx p := fun p => ExtE.same sm
        obtain ⟨ρ1, e, q3⟩ := q'.opt
        have hEx := hE'.ext (eN _) hS'
        refine hg x _ Hx _ _ d _ (hEx.wipe vs) hd ⟨ρ1, e, fun σ1 hE1' wi => ⟨(wi vs rfl).trans (wipe_wipe σ vs), ?_⟩⟩
        refine hc σ1 Hx _ ρ1 S' _ hE1' (hS'.ext sm) ((q3.bndK.up xE (ex.trans (eN _))).plus.mono fun b S2 H2 p2 e2 s2 q4 c hcb => ?_)
        subst hcb
        have ex2 : ExtE H1 p1 H2 ⟨p2.α, p1.ω, p1.γ⟩ := by
          have z := (ex.trans (eN _))
          refine z.trans ⟨e2.α, rfl, rfl, e2.k, e2.t⟩
        have ep2 : p2 = ⟨p2.α, p1.ω ++ [D], p1.γ⟩ := by
          have h1 := e2.ω
          have h2 := e2.γ
          cases p2
          cases h1
          cases h2
          rfl
        have nDα : D ∉ p2.α := (s2.dj D (by rw [e2.ω]; exact mD)).1
        have eH2 : ExtE H' ⟨α', p1.ω ++ [D], p1.γ⟩ H2 p2 := (eN _).trans e2
        have hE2 : IsE Z O H2 p2 σ ρ := hE'.ext eH2 hS'
        have hD2 : H2 D = some (.dK (ks.zip acc)) := eH2.k D _ hD (hS'.dj D mD).1
        have hacc2 := hacc.ext eH2.s
        cases c with
        | true =>
          show tk σ1 H2 _
          have q5 : Post Z Er ExtE ((mk ρ1 >>= fun y => M.opt (keyD y) >>= fun k => m ρ1 >>= fun x => M.need (decide (ks.length < 100000)) >>= fun _ => dcD gm mb mk m (wipeE ρ vs) (ds.drop (i + 1)) (putKN k ks) (putKV k x ks es)) S2) H1 p1 _ := q4
          have q6 := (q5.bndK.up xE ex2).plus (D := D)
          have e23 : (⟨p2.α, p1.ω ++ [D], p1.γ⟩ : Pl) = p2 := by rw [ep2]
          rw [e23] at q6
          refine hk σ1 H2 p2 ρ1 S2 _ (hE1'.ext e2 (hS'.ext sm)) s2 (q6.mono fun y3 S3 H3 p3 e3 s3 q7 v hv => ?_)
          have ep3 : p3 = ⟨p3.α, p1.ω ++ [D], p1.γ⟩ := by
            have h1 := e3.ω
            have h2 := e3.γ
            rw [ep2] at h1 h2
            cases p3
            cases h1
            cases h2
            rfl
          obtain ⟨k, ek, q7⟩ := Post.opt q7
          have ex3 : ExtE H1 p1 H3 ⟨p3.α, p1.ω, p1.γ⟩ := ex2.trans ⟨e3.α, rfl, rfl, e3.k, e3.t⟩
          have q8 := (q7.bndK.up xE ex3).plus (D := D)
          have e33 : (⟨p3.α, p1.ω ++ [D], p1.γ⟩ : Pl) = p3 := by rw [ep3]
          rw [e33] at q8
          refine he σ1 H3 p3 ρ1 S3 _ ((hE1'.ext e2 (hS'.ext sm)).ext e3 s2) s3 (q8.mono fun x4 S4 H4 p4 e4 s4 q9 w hw => ?_)
          have ep4 : p4 = ⟨p4.α, p1.ω ++ [D], p1.γ⟩ := by
            have h1 := e4.ω
            have h2 := e4.γ
            rw [ep3] at h1 h2
            cases p4
            cases h1
            cases h2
            rfl
          obtain ⟨few, q10⟩ := Post.need q9
          have few := of_decide_eq_true few
          have mD4 : D ∈ p4.ω := by rw [ep4]; exact mD
          have nDα3 : D ∉ p3.α := (s3.dj D (by rw [ep3]; exact mD)).1
          have hD4 : H4 D = some (.dK (ks.zip acc)) := e4.k D _ (e3.k D _ hD2 nDα) nDα3
          have hacc4 := (hacc2.ext e3.s).ext e4.s
          have hE4 := (hE2.ext e3 s2).ext e4 s3
          have noO : ∀ (i : Nat) (d : Dat), i ∈ O → ρ[i]? = some (some d) → σ[i]? ≠ some (some (.ref D)) := fun i d oi z => by
            rcases noD i oi with h | h | h
            · exact h
            · rw [h] at z; cases z
            · rw [h] at z; cases z
          obtain ⟨ws, k1, k2, k3⟩ := putK_rel (k := k) hw la hacc4
          have ePut : Ext H4 p4 (L2.upd H4 D (.dK (putK (ks.zip acc) k w))) p4 := ext_put mD4
          refine ⟨ks.zip acc, k, keyD_is (hv.ext e4.s) ek, hD4, by rw [List.length_zip, ← la, Nat.min_self]; omega, p4.α, S4, putKN k ks, ws, putKV k x4 ks es, ?_, ?_, by rw [upd_same, k1], k2, ?_, ?_, q10⟩
          · rw [← ep4]
            refine ⟨hE4.len, fun j d nj z => ?_, fun j d oj z => ?_, hE4.dj⟩
            · obtain ⟨v, h1, h2⟩ := hE4.get j d nj z
              exact ⟨v, h1, h2.ext ePut⟩
            · obtain ⟨a, h1, h2, h3⟩ := hE4.own j d oj z
              exact ⟨a, h1, h2, h3.ext ePut fun u zz => by rw [upd_ne fun c => noO j d oj z (by rw [← c]; exact h1)]; exact zz⟩
          · rw [← ep4]
            exact s4.put mD4
          · rw [← ep4]
            exact k3.ext ePut
          · have z : ExtE H1 p1 H4 ⟨p4.α, p1.ω, p1.γ⟩ := ex3.trans ⟨e4.α, rfl, rfl, e4.k, e4.t⟩
            exact ⟨z.α, rfl, rfl, fun a o h n => by rw [upd_ne (ne_of_none h nD)]; exact z.k a o h n, fun a n => by rw [upd_ne fun c => n (by rw [c]; exact nD)]; exact z.t a n⟩
        | false =>
          have q5 : Post Z Er ExtE (dcD gm mb mk m (wipeE ρ vs) (ds.drop (i + 1)) ks es S2) H1 p1 _ := q4
          exact ⟨p2.α, S2, ks, acc, es, by rw [← ep2]; exact hE2, by rw [← ep2]; exact s2, hD2, la, by rw [← ep2]; exact hacc2, ex2, q5⟩
      · have e : i = ds.length := by omega
        subst e
        rw [List.drop_length] at q'
        refine .inl ⟨(hJ H' _ S' _ exC hS').2 rfl, ?_⟩
        have hS3 := hS'.less (ω := p1.ω) fun a h => List.mem_append_left _ h
        have nh : ¬ (⟨α', p1.ω, p1.γ⟩ : Pl).has D := by
          rintro (h | h | h)
          · exact (hS'.dj D mD).1 h
          · exact s1.wt D (.inl h) nD
          · exact s1.wt D (.inr h) nD
        exact q' H' _ ex hS3 D (back_of e1.t nD) (by rw [hD]; exact nofun) nh hS' ⟨acc, hD, la, hacc⟩)
end
end Zd

namespace Zd
open PySem PySem.Spec PyProof.Rows L2
/-! ### a call of what a slot holds -/
def tCallR (i : Nat) (R : Addr → Sp → Prop) (t : TA) : TE := fun σ H Q => ∃ f sp, σ[i]? = some (some (.ref f)) ∧ R f sp ∧ t σ H fun vs H1 => sp vs H1 Q (fun _ _ _ => False)
section
variable {X : Cx} {k i : Nat} {x : Str} {p pos : Pos} {e : Expr} {es : List Expr} {t : TA}
theorem pe_callR {R : Addr → Sp → Prop} (A : ∀ f sp, R f sp → Held X.prog X.w X.K X.mg X.base k f sp) (hr : Room k X.A) (hN : X.N[i]? = some x) (hv : Vis X.env.scope x) (ha : PA X (e :: es) t)
    (hdb : (x == ("__debug__" : Str)) = false := by decide) (hcd : (x == ("__classdict__" : Str)) = false := by decide)
    (he : starEach (e :: es) X.env = (false, eval e X.env) :: starEach es X.env := by rfl) (hpl : (backTo pos (starEach es X.env)).any (·.1) = false := by rfl) : PE X (.Call (.Name x p) (e :: es) [] pos) (tCallR i R t) := by
  refine ⟨fun pins s σ H Q I h => ?_⟩
  obtain ⟨f, sp, hs, hS, ht⟩ := h
  obtain ⟨fd, ps, F, hk, hb⟩ := (A f sp hS).ex
  refine (pe_callL (i := i) (f := f) (sp := sp) (dvs := []) (E := fun _ _ _ => False) F hr hN hv hk hb .nil (fun _ _ _ _ _ _ _ z => z.elim) ha hdb hcd he hpl).run pins s σ H Q I ⟨hs, ?_⟩
  have e0 : (fun (vs : List V) (H1 : Hp) => sp (vs ++ []) H1 Q (fun _ _ _ => False)) = fun vs H1 => sp vs H1 Q (fun _ _ _ => False) := by
    funext vs H1
    rw [List.append_nil]
  show t σ H (fun vs H1 => sp (vs ++ []) H1 Q (fun _ _ _ => False))
  rw [e0]
  exact ht
end
def lkF (c : String) : List (String × (List Dat → M Dat)) → Option (List Dat → M Dat)
  | [] => none
  | (k, F) :: r => if k = c then some F else lkF c r
def RT (Z : Cz) (n : Nat) (T : List (String × (List Dat → M Dat))) (f : Addr) (sp : Sp) : Prop := ∃ c F, lkF c T = some F ∧ f = Z.κ c ∧ sp = spD Z n F
def clsAt (ρ : Env) (i : Nat) : Option String := match ρ[i]? with
  | some (some (.cls c)) => some c
  | _ => none
def xCallT (T : List (String × (List Dat → M Dat))) (i : Nat) (l : Env → M (List Dat)) (ρ : Env) : M Dat := M.opt (clsAt ρ i) >>= fun c => M.opt (lkF c T) >>= fun F => l ρ >>= fun ds => calm (F ds)
section
variable {Z : Cz} {Er : ErW} {O : List Nat} {te ta tb tc : TE} {ts : TS} {tl tk : TA} {tt : TT} {m m1 m2 m3 : Env → M Dat} {mb : Env → M Bool} {ml mk : Env → M (List Dat)} {ms : Env → M Flow}
theorem j_callT {T : List (String × (List Dat → M Dat))} {n i : Nat} (ni : i ∉ O) (hl : JA Z Er O tl ml) (hn : ∀ ρ S ds S', ml ρ S = .ok ds S' → ds.length = n) : JD Z Er O (tCallR i (RT Z n T) tl) (xCallT T i ml) := fun σ H p ρ S Q hE hS q => by
  obtain ⟨c, ec, q⟩ := Post.opt q
  obtain ⟨F, eF, q⟩ := Post.opt q
  have eρ : ρ[i]? = some (some (.cls c)) := by
    unfold clsAt at ec
    split at ec
    · rename_i e; cases ec; exact e
    · cases ec
  obtain ⟨v, h1, h2⟩ := hE.get i _ ni eρ
  have hv : v = .ref (Z.κ c) := by unfold IsD at h2; exact h2
  subst hv
  refine ⟨_, _, h1, ⟨c, F, eF, rfl, rfl⟩, ?_⟩
  refine hl σ H p ρ S _ hE hS ?_
  have q2 := q.bnd xE
  unfold Post at q2 ⊢
  cases z : ml ρ S with
  | ok ds S1 =>
    rw [z] at q2
    intro H1 p1 e1 s1 vs hv
    exact call_sp (hv.len.trans (hn ρ S ds S1 z)) hv s1 (q2 H1 p1 e1 s1)
  | er c fs S1 => rw [z] at q2; exact q2
  | bad => rw [z] at q2; exact q2
/-- d[k], d a dict of the module that holds defs -/
def kds (t : List (Str × String)) (z : Str) : Option String := match t with
  | [] => none
  | (k, c) :: r => if k == z then some c else kds r z
structure FDict (Z : Cz) (w : World) (mg : Str → Option Value) (x : Str) (a : Addr) (t : List (Str × String)) : Prop where
  g : mg x = some (.ref a)
  at_ : ∀ z c, kds t z = some c → KDct Z.K w a z (.ref (Z.κ c))
def xKIx (t : List (Str × String)) (m : Env → M Dat) (ρ : Env) : M Dat := m ρ >>= fun y => M.opt (sT y) >>= fun z => M.opt (kds t z) >>= fun c => pure (.cls c)
def tIxG (rd : L2.R2) (a : Addr) (ty : TE) : TE := fun σ H Q => ty σ H fun y H1 => rd (.ref a) y H1 Q
theorem j_kix {w : World} {mg : Str → Option Value} {x : Str} {a : Addr} {t : List (Str × String)} (T : FDict Z w mg x a t) (h : JD Z Er O ta m) : JD Z Er O (fun σ H Q => (fun (σ : L2.St) (H : Hp) (Q : VK) => Q (.ref a) H) σ H fun x H1 => ta σ H1 fun y H2 => rIxD Z.K w x y H2 Q) (xKIx t m) := fun σ H p ρ S Q hE hS q =>
  h σ H p ρ S _ hE hS ((q.bnd xE).mono fun d S1 H1 p1 e1 s1 q1 v hv => by
    obtain ⟨z, ez, q1⟩ := Post.opt q1
    obtain ⟨c, ec, q1⟩ := Post.opt q1
    rw [sT_is ez] at hv
    exact ⟨a, z, .ref (Z.κ c), rfl, isD_str.mp hv, T.at_ z c ec, q1.pure xE s1 _ (by unfold IsD; rfl)⟩)
/-! ### more operators -/
def dS0 (f : Str → Str → Bool) (d e : Dat) : M Dat := match d, e with
  | .str x, .str y => pure (.bl (f x y))
  | _, _ => M.no
def repD : Nat → List Dat → List Dat
  | 0, _ => []
  | n + 1, ds => ds ++ repD n ds
theorem rep_is {H : Hp} {p : Pl} {vs : List V} {ds : List Dat} (h : IsDs Z H p vs ds) : ∀ n, IsDs Z H p (List.replicate n vs).flatten (repD n ds)
  | 0 => isDs_nil.mpr rfl
  | n + 1 => by rw [List.replicate_succ, List.flatten_cons]; exact h.append (rep_is h n)
def dRepT (d e : Dat) : M Dat := match d, e with
  | .tup ds, .int k => M.need (!ds.isEmpty && decide (2 ≤ k) && decide (k ≤ 1000) && decide (ds.length ≤ 1000)) >>= fun _ => pure (.tup (repD k.toNat ds))
  | _, _ => M.no
theorem r_repT : JRD Z (rRepT Z.K) dRepT := fun x y d e Er H p S Q hx hy s q => by
  unfold dRepT at q
  split at q
  · rename_i ds k
    obtain ⟨c, q⟩ := q.need
    simp only [Bool.and_eq_true, decide_eq_true_eq, Bool.not_eq_true'] at c
    obtain ⟨a, vs, rfl, h1, h2⟩ := isD_tup.mp hx
    refine ⟨a, k, vs, rfl, isD_int.mp hy, h1.sq, fun z => ?_, c.1.1.2, c.1.2, by rw [h2.len]; exact c.2, fun t nt => q.at_new s nt _ (new_tup s nt (rep_is h2 k.toNat))⟩
    have := h2.len
    rw [z] at this
    cases ds with
    | nil => cases c.1.1.1
    | cons a r => cases this
  · exact (bad_no (S := S) q).elim
def dIsB (neg : Bool) (d e : Dat) : M Dat := match d, e with
  | .bl a, .bl b => pure (.bl (neg != decide (a = b)))
  | _, _ => M.no
theorem r_isB : JRD Z (fun x y H Q => ∃ a b, x = .bl a ∧ y = .bl b ∧ Q (.bl (decide (a = b))) H) (dIsB false) := fun x y d e Er H p S Q hx hy s q => by
  unfold dIsB at q
  split at q
  · rw [Bool.false_bne] at q
    exact ⟨_, _, isD_bl.mp hx, isD_bl.mp hy, q.pure xE s _ (isD_bl.mpr rfl)⟩
  · exact (bad_no (S := S) q).elim
/-- x in y, y an instance of the class -/
def rInI (C : Addr) (sp : Sp) (E : XK) (g : Bool → Bool) : R2 := fun x y H Q => ∃ b dy gs, y = .ref b ∧ H b = some (.ins C dy gs) ∧ sp [y, x] H (fun z H' => ∃ c, z = .bl c ∧ Q (.bl (g c)) H') E
def dInI (c : String) (neg : Bool) (G : List Dat → M Dat) (d e : Dat) : M Dat := fun S => match insD S e with
  | some (c1, _) => match decide (c1 = c) with
    | true => (calm (G [e, d]) >>= fun z => M.opt (dB z) >>= fun b => pure (.bl (neg != b))) S
    | false => .bad
  | none => .bad
theorem r_inI {c : String} {neg : Bool} {F G : List Dat → M Dat} {E : XK} (V : Via Z 2 F G) : JRD Z (rInI (Z.κ c) (spD Z 2 F) E (neg != ·)) (dInI c neg G) := fun x y d e Er H p S Q hx hy s q => by
  unfold dInI at q
  cases e2 : insD S e with
  | none => simp only [e2] at q; exact q.elim
  | some o2 =>
    obtain ⟨c2, f2⟩ := o2
    simp only [e2] at q
    cases eb : decide (c2 = c) with
    | false => rw [eb] at q; exact q.elim
    | true =>
      rw [eb] at q
      have ec := of_decide_eq_true eb
      subst ec
      obtain ⟨b, dy, ws, rfl, hb⟩ := ins_is s hy e2
      refine ⟨b, dy, _, rfl, hb, V Er H p S _ [e, d] _ E rfl (isDs_cons.mpr ⟨_, _, rfl, hy, .one hx⟩) s ?_⟩
      have q2 := q.bnd xE
      refine q2.mono fun z S1 H1 p1 e1 s1 q3 v hv => ?_
      obtain ⟨b, eb, k⟩ := Post.opt q3
      rw [dB_some eb] at hv
      exact ⟨b, isD_bl.mp hv, k.pure xE s1 _ (isD_bl.mpr rfl)⟩
end
section
variable {X : Cx} {CX : CXT} {pins : List (Addr × Obj)} {σ : L2.St} {H : Hp} {s : Shared} {C g f : Addr} {fd : FuncData} {ps ks : List Str} {k : Nat} {sp : Sp} {E : XK} {x : Str} {p pos : Pos} {e : Expr} {es : List Expr} {kws : List Keyword} {t tk : TA}
theorem run_in {A : Around} {Q : VK} {us : List Value} {ws : List V} (F : FnOk X.prog X.w X.K X.mg X.base CX k g fd ps sp) (hr : Room k A) (hb : Binds X.K fd ps []) (e0 : Env0 X.prog X.w X.K X.mg X.base A X.stack s H)
    (hx : Passes CX X E) (I : Inv X pins σ H s) (r : Vals ws us) (h : sp ws H Q E) : wpAny (model X.prog X.w) A (call (.ref g) us) (EP X pins σ Q) X.xe s := by
  have hl : (us ++ []).length = ps.length := by rw [List.append_nil, ← r.length]; exact F.len _ _ _ _ h
  have b := hb s us I.kIn hl
  rw [List.append_nil] at b
  refine wpAny_call (codeAny_mono (F.run A X.stack s H ⟨us, []⟩ us ws Q E hr e0 b r h) fun r s' hq => ?_)
  match r, hq with
  | .error e, z => exact hx pins σ H s e s' I z
  | .ok (.ret _), z => exact I.after z
  | .ok .next, z => exact z.elim
  | .ok .brk, z => exact z.elim
  | .ok .cont, z => exact z.elim
theorem op_cmpI {op : CmpOp} (hop : ∀ a b, compareOp op a b = richCompare op a b) (hs : PySem.W.findIn X.K (.ref C) (cmpInfo op).2.1 = some (some (.ref g))) (hf : PySem.W.isFn X.K (.ref g) = true)
    (F : FnOk X.prog X.w X.K X.mg X.base CX k g fd ps sp) (hr : Room k X.A) (hb : Binds X.K fd ps []) (hx : Passes CX X E) : OpR X (compareOp op) (rOwnI C sp E) := by
  intro pins s σ H x y v u Q I rx ry h
  obtain ⟨a, dx, fs, b, dy, gs, rfl, rfl, ha, hb', q⟩ := h
  cases (show v = Value.ref a from rx)
  cases (show u = Value.ref b from ry)
  obtain ⟨mA, O, _⟩ := ins_get I.hok ha
  obtain ⟨od, J, _⟩ := O.look
  obtain ⟨mB, O', _⟩ := ins_get I.hok hb'
  obtain ⟨od', J', _⟩ := O'.look
  obtain ⟨m, hF⟩ := I.fr
  rw [hop]
  refine PySem.W.cmp_K (op := op) (tb := .ref C) hr.units0 hF I.ok.mod.kin J J'.type (by simp [PySem.W.notFirst]) hs hf ?_
  refine wpAny_mono (run_in (us := [.ref a, .ref b]) (ws := [.ref a, .ref b]) F hr hb I.env0 hx I (.cons rfl (.cons rfl .nil)) q) (fun w s' z => ?_) fun _ _ x => x
  obtain ⟨z', H', I', rz, qz⟩ := z
  exact SlX.cmpback rz ⟨z', H', I', rz, qz⟩
theorem op_inI {E : XK} (hs : PySem.W.findIn X.K (.ref C) "__contains__" = some (some (.ref f))) (hf : PySem.W.isFn X.K (.ref f) = true)
    (F : FnOk X.prog X.w X.K X.mg X.base CX k f fd ps sp) (hr : Room k X.A) (hb : Binds X.K fd ps []) (hx : Passes CX X E) : OpR X (compareOp .In) (rInI C sp E (false != ·)) := by
  intro pins s σ H x y v u Q I rx ry h
  obtain ⟨b, dy, gs, rfl, hb', q⟩ := h
  cases (show u = Value.ref b from ry)
  obtain ⟨mB, O, _⟩ := ins_get I.hok hb'
  obtain ⟨od, J, _⟩ := O.look
  obtain ⟨m, hF⟩ := I.fr
  refine PySem.W.in_K hF I.ok.mod.kin J hs hf ?_
  refine wpAny_mono (run_in (us := [.ref b, v]) (ws := [.ref b, x]) F hr hb I.env0 hx I (.cons rfl (.cons rx .nil)) q) (fun w s' z => ?_) fun _ _ x => x
  obtain ⟨z', H', I', rz, c, ec, qz⟩ := z
  subst ec
  dsimp only at qz
  rw [Bool.false_bne] at qz
  cases (show w = Value.bool c from rz)
  exact wpAny_truthy_bool ⟨.bl c, H', I', rfl, qz⟩
theorem op_notInI {E : XK} (hs : PySem.W.findIn X.K (.ref C) "__contains__" = some (some (.ref f))) (hf : PySem.W.isFn X.K (.ref f) = true)
    (F : FnOk X.prog X.w X.K X.mg X.base CX k f fd ps sp) (hr : Room k X.A) (hb : Binds X.K fd ps []) (hx : Passes CX X E) : OpR X (compareOp .NotIn) (rInI C sp E (true != ·)) := by
  intro pins s σ H x y v u Q I rx ry h
  obtain ⟨b, dy, gs, rfl, hb', q⟩ := h
  cases (show u = Value.ref b from ry)
  obtain ⟨mB, O, _⟩ := ins_get I.hok hb'
  obtain ⟨od, J, _⟩ := O.look
  obtain ⟨m, hF⟩ := I.fr
  refine PySem.W.notIn_K hF I.ok.mod.kin J hs hf ?_
  refine wpAny_mono (run_in (us := [.ref b, v]) (ws := [.ref b, x]) F hr hb I.env0 hx I (.cons rfl (.cons rx .nil)) q) (fun w s' z => ?_) fun _ _ x => x
  obtain ⟨z', H', I', rz, c, ec, qz⟩ := z
  subst ec
  dsimp only at qz
  rw [Bool.true_bne] at qz
  cases (show w = Value.bool c from rz)
  exact wpAny_truthy_bool ⟨.bl (!c), H', I', rfl, qz⟩
/-! ### keywords -/
/-- the positional ones and the keywords' values in the parameters' order -/
def pick {α : Type} (n : Nat) (π : List Nat) (us ws : List α) : List α := if us.length = n ∧ n + ws.length = π.length then π.filterMap fun i => (us ++ ws)[i]? else []
theorem vals_get : ∀ {vs : List V} {us : List Value} (i : Nat), Vals vs us → (∃ v u, vs[i]? = some v ∧ us[i]? = some u ∧ RelV v u) ∨ (vs[i]? = none ∧ us[i]? = none) := fun {vs us} i h => by
  induction h generalizing i with
  | nil => exact .inr ⟨by simp, by simp⟩
  | cons a b ih =>
    cases i with
    | zero => exact .inl ⟨_, _, rfl, rfl, a⟩
    | succ i => simpa using ih i
theorem vals_pick {π : List Nat} {vs : List V} {us : List Value} (h : Vals vs us) : Vals (π.filterMap fun i => vs[i]?) (π.filterMap fun i => us[i]?) := by
  induction π with
  | nil => exact .nil
  | cons i r ih =>
    rcases vals_get i h with ⟨v, u, e1, e2, rv⟩ | ⟨e1, e2⟩
    · rw [List.filterMap_cons, List.filterMap_cons, e1, e2]
      exact .cons rv ih
    · rw [List.filterMap_cons, List.filterMap_cons, e1, e2]
      exact ih
theorem vals_app : ∀ {vs zs : List V} {us ws : List Value}, Vals vs us → Vals zs ws → Vals (vs ++ zs) (us ++ ws) := fun {vs zs us ws} h k => by
  induction h with
  | nil => exact k
  | cons a b ih => exact .cons a ih
theorem Fun_kbinds {K : PySem.W.Frag} {x qual : Str} {st : Stmt} {f : Addr} {fd : FuncData} (F : Fun K x qual st f fd) {ps ks : List Str} {n : Nat} {π : List Nat} (h0 : 0 < ps.length)
    (h : ∀ (kV doc pm : Value) (an : Option Addr) (cdv ct : Value) (us ws : List Value), us.length = n → n + ws.length = π.length → bindArgs (PySem.W.fnOf x qual (defArgs st) (defBody st) (defScope st) .none kV doc pm an cdv ct) ⟨us, ks.zip ws⟩ = pure (ps.zip (pick n π us ws))) : KBinds K fd ps ks (pick n π) (pick n π) := by
  obtain ⟨oc, od, kV, doc, pm, an, cdv, ct, osl, rfl, lk, hcd⟩ := F.ex
  refine ⟨fun s us ws _ hl => BindsTo.of_eq ?_, fun {vs us zs ws} hv hz => ?_⟩
  · by_cases c : us.length = n ∧ n + ws.length = π.length
    · exact h kV doc pm an cdv ct us ws c.1 c.2
    · unfold pick at hl
      rw [if_neg c] at hl
      rw [← hl] at h0
      cases h0
  · unfold pick
    rw [hv.length, hz.length]
    by_cases c : us.length = n ∧ n + ws.length = π.length
    · rw [if_pos c, if_pos c]
      exact vals_pick (vals_app hv hz)
    · rw [if_neg c, if_neg c]
      exact .nil
theorem pe_callK0 {gv : List Value → List Value → List Value} {gV : List V → List V → List V} (F : FnOk X.prog X.w X.K X.mg X.base CX k f fd ps sp) (hr : Room k X.A) (hg : Gl X x) (hm : X.mg x = some (.ref f)) (hk : PySem.W.keepIn X.K (.ref f) = true) (hb : KBinds X.K fd ps ks gv gV) (hx : Passes CX X E)
    (hkw : PK X kws tk) (hall : (backToKw pos (keywordEach kws X.env)).all (·.1.isSome) = true := by rfl) (hks : (backToKw pos (keywordEach kws X.env)).filterMap (·.1) = ks := by rfl)
    (hdb : (x == ("__debug__" : Str)) = false := by decide)
    (hpl : ((backTo pos (starEach [] X.env)).any (·.1) || (backToKw pos (keywordEach kws X.env)).any (·.1.isNone)) = false := by rfl) :
    PE X (.Call (.Name x p) [] kws pos) (tCallK sp gV E tNil tk) := by
  refine ⟨fun pins s σ H Q I h => ?_⟩
  refine wpAny_Call_Name_kw (ld_glob I hg hm ?_ hdb)
  refine PySem.W.callWith_KW0 (h₀ := X.base) I.ok.mod.kin hk hall (thn (hkw.run pos pins s σ H _ I h) fun ws s2 ⟨zs, H2, I2, rz, q2⟩ => ⟨I2.kIn, ?_⟩) hpl
  rw [hks]
  exact run_fnk (us := []) (vs := []) F hr hb hx I2 .nil rz q2
end
section
variable {Z : Cz} {Er : ErW} {O : List Nat} {tl tk : TA} {ml mk : Env → M (List Dat)}
theorem IsDs.pick {H : Hp} {p : Pl} {n : Nat} {π : List Nat} {vs ws : List V} {ds es : List Dat} (h : IsDs Z H p vs ds) (k : IsDs Z H p ws es) : IsDs Z H p (pick n π vs ws) (pick n π ds es) := by
  unfold Zd.pick
  rw [h.len, k.len]
  by_cases c : ds.length = n ∧ n + es.length = π.length
  · rw [if_pos c, if_pos c]
    have ha := h.append k
    generalize vs ++ ws = us at ha
    generalize ds ++ es = fs at ha
    have hl := ha.len
    clear c
    induction π with
    | nil => exact isDs_nil.mpr rfl
    | cons i r ih =>
      rw [List.filterMap_cons, List.filterMap_cons]
      cases e : fs[i]? with
      | none =>
        have : us[i]? = none := by
          rw [List.getElem?_eq_none_iff] at e ⊢
          omega
        rw [this]
        exact ih
      | some d =>
        obtain ⟨v, e1, e2⟩ := ha.get e
        rw [e1]
        exact isDs_cons.mpr ⟨v, _, rfl, e2, ih⟩
  · rw [if_neg c, if_neg c]
    exact isDs_nil.mpr rfl
def xCallK (n : Nat) (π : List Nat) (N : Nat) (G : List Dat → M Dat) (l k : Env → M (List Dat)) (ρ : Env) : M Dat := l ρ >>= fun ds => k ρ >>= fun es => M.need (decide ((pick n π ds es).length = N)) >>= fun _ => calm (G (pick n π ds es))
theorem j_callK {F G : List Dat → M Dat} {n N : Nat} {π : List Nat} {E : XK} (V : Via Z N F G) (hl : JA Z Er O tl ml) (hk : JA Z Er O tk mk) : JD Z Er O (tCallK (spD Z N F) (pick n π) E tl tk) (xCallK n π N G ml mk) := fun σ H p ρ S Q hE hS q =>
  hl σ H p ρ S _ hE hS ((q.bnd xE).mono fun ds S1 H1 p1 e1 s1 q1 vs hv => hk σ H1 p1 ρ S1 _ (hE.ext e1 hS) s1 ((q1.bnd xE).mono fun es S2 H2 p2 e2 s2 q2 ws hw => by
    obtain ⟨c, q3⟩ := Post.need q2
    have c := of_decide_eq_true c
    have hd := IsDs.pick (n := n) (π := π) (hv.ext e2.s) hw
    exact V Er H2 p2 S2 _ _ Q E (hd.len.trans c) hd s2 q3))
end
end Zd

namespace Zd
open PySem PySem.Spec PyProof.Rows L2 Zg
/-! ### what callers are told of methods, classes, calls with keywords -/
def MeI (P : Program) (w : World) (K : PySem.W.Frag) (mg : Str → Option Value) (base : Heap) (Z : Cz) (k : Nat) (c : String) (m : Str) (ps : List Str) (sp : Sp) : Prop :=
  ∃ (f : Addr) (fd : FuncData), Meth K (Z.κ c) m f ∧ FnOk P w K mg base CX0 k f fd ps sp ∧ Binds K fd ps []
def MkI (P : Program) (w : World) (K : PySem.W.Frag) (mg : Str → Option Value) (base : Heap) (Z : Cz) (k : Nat) (c : String) (x : Str) (ps : List Str) (sp : Sp) : Prop :=
  ∃ (f : Addr) (fd : FuncData), Mk K (Z.κ c) f ∧ FnOk P w K mg base CX0 k f fd ps sp ∧ Binds K fd ps [] ∧ mg x = some (.ref (Z.κ c))
def CalKw (P : Program) (w : World) (K : PySem.W.Frag) (mg : Str → Option Value) (base : Heap) (k : Nat) (x : Str) (ps ks : List Str) (n : Nat) (π : List Nat) (sp : Sp) : Prop :=
  ∃ (f : Addr) (fd : FuncData), FnOk P w K mg base CX0 k f fd ps sp ∧ KBinds K fd ps ks (pick n π) (pick n π) ∧ mg x = some (.ref f) ∧ PySem.W.keepIn K (.ref f) = true
/-- a class: its fields, its name -/
structure ClsI (K : PySem.W.Frag) (mg : Str → Option Value) (Z : Cz) (c : String) (x : Str) (fs : List Str) : Prop where
  t : ClsT Z c fs
  i : InsT Z c
  g : mg x = some (.ref (Z.κ c))
structure TxD2 (mg : Str → Option Value) : Prop extends TxD mg where
  n_dict : mg "dict" = none
def CalI (P : Program) (w : World) (K : PySem.W.Frag) (mg : Str → Option Value) (base : Heap) (C : Addr) (x : Str) (ps : List Str) : Prop :=
  ∃ (f : Addr) (fd : FuncData), PySem.W.findIn K (.ref C) "__init__" = some (some (.ref f)) ∧ PySem.W.typeIn K (.ref f) = some (.type "function") ∧ FnOk P w K mg base CX0 1 f fd ps (spIni C x) ∧ Binds K fd ps []
section
variable {Z : Cz} {Er : ErW} {O : List Nat}
theorem j_cls {c : String} : JD Z Er O (tC (.ref (Z.κ c))) (xC (.cls c)) := j_c fun _ _ => by unfold IsD; rfl
end
end Zd

namespace Zd
open PySem PySem.Spec PyProof.Rows L2 Zg
/-! ### for a law's end -/
section
variable {P : Program} {w : World} {K : PySem.W.Frag} {mg : Str → Option Value} {base : Heap} {Z : Cz} {k n : Nat}
theorem held_nil : ∀ f sp, RT Z n [] f sp → Held P w K mg base k f sp := fun f sp ⟨c, F, e, _⟩ => by cases e
theorem held_cons {c : String} {L : List Dat → M Dat} {T : List (String × (List Dat → M Dat))} {j : Nat} {fd : FuncData} {ps : List Str} (F : FnOk P w K mg base CX0 j (Z.κ c) fd ps (spD Z n L)) (h : j ≤ k) (hk : PySem.W.keepIn K (.ref (Z.κ c)) = true) (hb : Binds K fd ps [])
    (hr : ∀ f sp, RT Z n T f sp → Held P w K mg base k f sp) : ∀ f sp, RT Z n ((c, L) :: T) f sp → Held P w K mg base k f sp := fun f sp ⟨d, G, e, ef, es⟩ => by
  unfold lkF at e
  by_cases q : c = d
  · rw [if_pos q] at e
    cases e
    subst q ef es
    exact ⟨fd, ps, F.mono h, hk, hb⟩
  · rw [if_neg q] at e
    exact hr f sp ⟨d, G, e, ef, es⟩
theorem kdW_of {a : Addr} {keys : List Str} {z : Str} {f : Addr} (h1 : He.dicW K a = some (He.keysIn w.params keys)) (h2 : PySem.W.nsIn K a z = some (some (.ref f))) : KDct K w a z (.ref f) := by
  obtain ⟨es, n, kd⟩ := He.dicW_ok h1
  exact ⟨es, n, .ref f, kd.at_, kd.lit, h2, rfl⟩
theorem kds_nil {Q : Str → String → Prop} : ∀ z c, kds [] z = some c → Q z c := fun z c e => by cases e
theorem kds_cons {Q : Str → String → Prop} {k : Str} {d : String} {t : List (Str × String)} (h : Q k d) (hr : ∀ z c, kds t z = some c → Q z c) : ∀ z c, kds ((k, d) :: t) z = some c → Q z c := fun z c e => by
  unfold kds at e
  by_cases q : (k == z) = true
  · rw [if_pos q] at e
    cases e
    rw [← eq_of_beq q]
    exact h
  · rw [if_neg q] at e
    exact hr z c e
end
end Zd

namespace Zd
open PySem PySem.Spec PyProof.Rows L2 Zg
/-! ### sorted of texts -/
def leS (a b : Str) : Prop := ¬ b.cps.toList < a.cps.toList
theorem leS_total (a b : Str) : leS a b ∨ leS b a := by
  unfold leS
  by_cases h : b.cps.toList < a.cps.toList
  · exact .inr fun k => List.lt_asymm h k
  · exact .inl h
theorem leS_trans {a b c : Str} (h : leS a b) (k : leS b c) : leS a c := by
  unfold leS at *
  have h : a.cps.toList ≤ b.cps.toList := h
  have k : b.cps.toList ≤ c.cps.toList := k
  exact List.le_trans h k
theorem leS_anti {a b : Str} (h : leS a b) (k : leS b a) : a = b := by
  unfold leS at *
  have h : a.cps.toList ≤ b.cps.toList := h
  have k : b.cps.toList ≤ a.cps.toList := k
  have e : a.cps.toList = b.cps.toList := List.le_antisymm h k
  cases a
  cases b
  simp at e
  rw [e]
def insS (x : Str) : List Str → List Str
  | [] => [x]
  | y :: r => if ltCps y.cps.toList x.cps.toList = true then y :: insS x r else x :: y :: r
def sortS : List Str → List Str
  | [] => []
  | x :: r => insS x (sortS r)
theorem insS_perm (x : Str) : ∀ l, (insS x l).Perm (x :: l)
  | [] => List.Perm.refl _
  | y :: r => by
    unfold insS
    split
    · exact ((insS_perm x r).cons y).trans (List.Perm.swap x y r)
    · exact List.Perm.refl _
theorem sortS_perm : ∀ l, (sortS l).Perm l
  | [] => List.Perm.refl _
  | x :: r => (insS_perm x (sortS r)).trans ((sortS_perm r).cons x)
theorem insS_sorted (x : Str) : ∀ l, l.Pairwise leS → (insS x l).Pairwise leS
  | [], _ => List.pairwise_singleton _ _
  | y :: r, h => by
    have hc := List.pairwise_cons.mp h
    unfold insS
    split
    · rename_i c
      rw [ltCps_eq, decide_eq_true_eq] at c
      refine List.pairwise_cons.mpr ⟨fun z m => ?_, insS_sorted x r hc.2⟩
      rcases List.mem_cons.mp ((insS_perm x r).mem_iff.mp m) with rfl | m
      · exact fun k => List.lt_asymm c k
      · exact hc.1 z m
    · rename_i c
      rw [ltCps_eq, decide_eq_true_eq] at c
      refine List.pairwise_cons.mpr ⟨fun z m => ?_, h⟩
      rcases List.mem_cons.mp m with rfl | m
      · exact c
      · exact leS_trans c (hc.1 z m)
theorem sortS_sorted : ∀ l, (sortS l).Pairwise leS
  | [] => List.Pairwise.nil
  | x :: r => insS_sorted x _ (sortS_sorted r)
theorem perm_eq : ∀ {l m : List Str}, l.Perm m → l.Pairwise leS → m.Pairwise leS → l = m
  | [], m, p, _, _ => (List.nil_perm.mp p).symm
  | a :: l, [], p, _, _ => absurd p.length_eq (by simp)
  | a :: l, b :: m, p, h, k => by
    have ha := List.pairwise_cons.mp h
    have hb := List.pairwise_cons.mp k
    have e : a = b := by
      have m1 : a ∈ b :: m := p.mem_iff.mp List.mem_cons_self
      have m2 : b ∈ a :: l := p.mem_iff.mpr List.mem_cons_self
      rcases List.mem_cons.mp m1 with e | m1
      · exact e
      · rcases List.mem_cons.mp m2 with e | m2
        · exact e.symm
        · exact leS_anti (ha.1 b m2) (hb.1 a m1)
    subst e
    rw [perm_eq (List.Perm.cons_inv p) ha.2 hb.2]
theorem rising_pw : ∀ (p : Str) (l : List Str), risingS p l = true → (p :: l).Pairwise leS
  | p, [], _ => List.pairwise_singleton _ _
  | p, x :: r, h => by
    have h : (!ltCps x.cps.toList p.cps.toList && risingS x r) = true := h
    rw [Bool.and_eq_true, Bool.not_eq_true'] at h
    have ih := rising_pw x r h.2
    have hc := List.pairwise_cons.mp ih
    have px : leS p x := by
      have := h.1
      rw [ltCps_eq, decide_eq_false_iff_not] at this
      exact this
    refine List.pairwise_cons.mpr ⟨fun z m => ?_, ih⟩
    rcases List.mem_cons.mp m with rfl | m
    · exact px
    · exact leS_trans px (hc.1 z m)
theorem sortedS_pw : ∀ {l : List Str}, sortedS l = true → l.Pairwise leS
  | [], _ => List.Pairwise.nil
  | x :: r, h => rising_pw x r h
theorem sortS_is {ys xs : List Str} (p : ys.Perm xs) (h : sortedS ys = true) : ys = sortS xs := perm_eq (p.trans (sortS_perm xs).symm) (sortedS_pw h) (sortS_sorted xs)
def strsL : List Dat → Option (List Str)
  | [] => some []
  | .str x :: r => (strsL r).map (x :: ·)
  | _ :: _ => none
theorem strsL_is : ∀ {ds : List Dat} {xs : List Str}, strsL ds = some xs → ds = xs.map .str
  | [], _, h => by cases h; rfl
  | .str x :: r, _, h => by
    unfold strsL at h
    cases e : strsL r with
    | none => rw [e] at h; cases h
    | some ys => rw [e] at h; cases h; rw [strsL_is e]; rfl
  | .non :: r, _, h => by cases h
  | .bl _ :: r, _, h => by cases h
  | .int _ :: r, _, h => by cases h
  | .tup _ :: r, _, h => by cases h
  | .lst _ :: r, _, h => by cases h
  | .dic _ _ :: r, _, h => by cases h
  | .obj _ _ _ :: r, _, h => by cases h
  | .loc _ :: r, _, h => by cases h
  | .ty _ :: r, _, h => by cases h
  | .cls _ :: r, _, h => by cases h
  | .scr _ :: r, _, h => by cases h
section
variable {Z : Cz} {Er : ErW} {O : List Nat} {te ta tb tc td : TE} {ts : TS} {tl tk : TA} {tt : TT} {m m1 m2 m3 m4 : Env → M Dat} {mb : Env → M Bool} {ml mk : Env → M (List Dat)} {ms : Env → M Flow}
theorem isDs_strs {H : Hp} {p : Pl} : ∀ {xs : List Str} {vs : List V}, IsDs Z H p vs (xs.map .str) → vs = xs.map V.str
  | [], _, h => isDs_nil.mp h
  | x :: r, _, h => by
    obtain ⟨v, ws, rfl, h1, h2⟩ := isDs_cons.mp h
    rw [isD_str.mp h1, isDs_strs h2]
    rfl
def dSorted (ds : List Dat) : M Dat := match ds with
  | [.lst xs] => M.opt (strsL xs) >>= fun zs => M.need (decide (zs.length < 64)) >>= fun _ => pure (.lst ((sortS zs).map .str))
  | _ => M.no
theorem c_sorted : JC Z (IsDs Z) (IsD Z) (rSortedS Z.K) dSorted := fun x d Er H p S Q hx s q => by
  unfold dSorted at q
  split at q
  · obtain ⟨zs, ez, q⟩ := q.opt
    obtain ⟨c, q⟩ := q.need
    obtain ⟨v, rfl, hv⟩ := isDs_one hx
    obtain ⟨a, vs, rfl, h1, h2⟩ := isD_lst.mp hv
    rw [strsL_is ez] at h2
    rw [isDs_strs h2] at h1
    refine ⟨a, zs, rfl, h1.sq, of_decide_eq_true c, fun ys l pm so nl => ?_⟩
    rw [sortS_is pm so]
    exact q.at_new s nl _ (new_lst s nl (strs_of (xs := sortS zs)))
  · exact (bad_no (S := S) q).elim
def dStrS (ds : List Dat) : M Dat := match ds with
  | [.str x] => pure (.str x)
  | _ => M.no
theorem c_strS : JC Z (IsDs Z) (IsD Z) (fun xs H Q => ∃ a, xs = [.str a] ∧ Q (.str a) H) dStrS := fun x d Er H p S Q hx s q => by
  unfold dStrS at q
  split at q
  · obtain ⟨v, rfl, hv⟩ := isDs_one hx
    exact ⟨_, by rw [isD_str.mp hv], q.pure xE s _ (isD_str.mpr rfl)⟩
  · exact (bad_no (S := S) q).elim
/-! ### dict(pairs) -/
def pairsD : List Dat → Option (List (Key × Dat))
  | [] => some []
  | .tup [k, x] :: r => (keyD k).bind fun g => (pairsD r).map ((g, x) :: ·)
  | _ :: _ => none
def mergeD : List Key → List Dat → List (Key × Dat) → List Key × List Dat
  | ks, ds, [] => (ks, ds)
  | ks, ds, (k, x) :: r => mergeD (putKN k ks) (putKV k x ks ds) r
theorem merge_rel {H : Hp} {p : Pl} : ∀ {ps : List (Key × Dat)} {qs : List (Key × V)} {ks : List Key} {ds : List Dat} {vs : List V}, ks.length = vs.length → IsDs Z H p vs ds → qs.map (·.1) = ps.map (·.1) → IsDs Z H p (qs.map (·.2)) (ps.map (·.2)) →
    ∃ ws, mergeK (ks.zip vs) qs = (mergeD ks ds ps).1.zip ws ∧ (mergeD ks ds ps).1.length = ws.length ∧ IsDs Z H p ws (mergeD ks ds ps).2
  | [], qs, ks, ds, vs, hl, h, e, _ => by
    have : qs = [] := List.map_eq_nil_iff.mp e
    subst this
    exact ⟨vs, rfl, hl, h⟩
  | (k, x) :: ps, [], _, _, _, _, _, e, _ => by cases e
  | (k, x) :: ps, (k', y) :: qs, ks, ds, vs, hl, h, e, g => by
    rw [List.map_cons, List.map_cons] at e
    injection e with e1 e2
    have e1 : k' = k := e1
    subst e1
    rw [List.map_cons, List.map_cons] at g
    obtain ⟨v, r, e3, g1, g2⟩ := isDs_cons.mp g
    injection e3 with e3 e4
    subst e3 e4
    obtain ⟨ws, k1, k2, k3⟩ := putK_rel (k := k') g1 hl h
    obtain ⟨us, l1, l2, l3⟩ := merge_rel k2 k3 e2 g2
    refine ⟨us, ?_, l2, l3⟩
    show mergeK (putK (ks.zip vs) k' y) qs = _
    rw [k1]
    exact l1
def dDictP (ds : List Dat) : M Dat := match ds with
  | [.lst xs] => M.opt (pairsD xs) >>= fun ps => pure (.dic (mergeD [] [] ps).1 (mergeD [] [] ps).2)
  | _ => M.no
theorem pairs_rel {H : Hp} {p : Pl} : ∀ {xs : List Dat} {vs : List V} {ps : List (Key × Dat)}, pairsD xs = some ps → IsDs Z H p vs xs → ∃ (as : List Addr) (qs : List (Key × V)), vs = as.map V.ref ∧ Paired (fun a kv => SqT Z.K H a [kV kv.1, kv.2]) as qs ∧ qs.map (·.1) = ps.map (·.1) ∧ IsDs Z H p (qs.map (·.2)) (ps.map (·.2))
  | [], _, _, e, h => by cases e; exact ⟨[], [], isDs_nil.mp h, .nil, rfl, isDs_nil.mpr rfl⟩
  | d :: r, _, _, e, h => by
    obtain ⟨v, ws, rfl, h1, h2⟩ := isDs_cons.mp h
    unfold pairsD at e
    split at e
    · rename_i heq; cases heq
    · rename_i k x r' heq
      injection heq with e1 e2
      subst e1 e2
      cases ek : keyD k with
      | none => rw [ek] at e; cases e
      | some g =>
        rw [ek] at e
        cases er : pairsD r with
        | none => rw [er] at e; cases e
        | some qs0 =>
          rw [er] at e
          cases e
          obtain ⟨as, qs, e1, e2, e3, e4⟩ := pairs_rel er h2
          obtain ⟨a, us, rfl, g1, g2⟩ := isD_tup.mp h1
          obtain ⟨u, w, rfl, g3, g4⟩ := isDs_two g2
          rw [keyD_is g3 ek] at g1
          refine ⟨a :: as, (g, w) :: qs, by rw [e1]; rfl, .cons g1.sq e2, ?_, ?_⟩
          · rw [List.map_cons, List.map_cons, e3]
          · exact isDs_cons.mpr ⟨w, _, rfl, g4, e4⟩
    · cases e
theorem c_dictP : JC Z (IsDs Z) (IsD Z) (fun xs H Q => ∃ (a : Addr) (ps : List Addr) (kvs : List (Key × V)), xs = [.ref a] ∧ SqL Z.K H a (ps.map V.ref) ∧ Paired (fun p kv => SqT Z.K H p [kV kv.1, kv.2]) ps kvs ∧ ∀ p, H p = none → Q (.ref p) (L2.upd H p (.dK (mergeK [] kvs)))) dDictP := fun x d Er H p S Q hx s q => by
  unfold dDictP at q
  split at q
  · obtain ⟨ps, ep, q⟩ := q.opt
    obtain ⟨v, rfl, hv⟩ := isDs_one hx
    obtain ⟨a, vs, rfl, h1, h2⟩ := isD_lst.mp hv
    obtain ⟨as, qs, e1, e2, e3, e4⟩ := pairs_rel ep h2
    rw [e1] at h1
    refine ⟨a, as, qs, rfl, h1.sq, e2, fun l nl => ?_⟩
    obtain ⟨ws, k1, k2, k3⟩ := merge_rel (ks := []) (ds := []) (vs := []) rfl (isDs_nil.mpr rfl) e3 e4
    have k1 : mergeK [] qs = (mergeD [] [] ps).1.zip ws := k1
    rw [k1]
    refine q.at_new s nl _ (isD_dic.mpr ⟨l, ws, rfl, ⟨upd_same, ?_⟩, k2, k3.ext (ExtE.new nl).s⟩)
    exact no_has s nl
  · exact (bad_no (S := S) q).elim
/-! ### a chain of three -/
def xChain3 (f g h : Dat → Dat → M Dat) (a b c d : Env → M Dat) (ρ : Env) : M Dat := a ρ >>= fun x => b ρ >>= fun y => (f x y >>= fun z => M.opt (dB z)) >>= fun k => if k = true then c ρ >>= fun u => (g y u >>= fun z => M.opt (dB z)) >>= fun k2 => if k2 = true then d ρ >>= fun w => h u w else pure (.bl false) else pure (.bl false)
theorem j_chain3 {r r' r'' : L2.R2} {f g h : Dat → Dat → M Dat} (hr : JRD Z r f) (hr' : JRD Z r' g) (hr'' : JRD Z r'' h) (ha : JD Z Er O ta m1) (hb : JD Z Er O tb m2) (hc : JD Z Er O tc m3) (hd : JD Z Er O td m4) : JD Z Er O (tChain3 r r' r'' ta tb tc td) (xChain3 f g h m1 m2 m3 m4) := fun σ H p ρ S Q hE hS q =>
  ha σ H p ρ S _ hE hS ((q.bnd xE).mono fun d S1 H1 p1 e1 s1 q1 v hv => hb σ H1 p1 ρ S1 _ (hE.ext e1 hS) s1 ((q1.bnd xE).mono fun e S2 H2 p2 e2 s2 q2 w hw =>
    hr v w d e Er H2 p2 S2 _ (hv.ext e2.s) hw s2 (((q2.bnd xE).bnd xE).mono fun z S3 H3 p3 e3 s3 q3 zv hz => by
      obtain ⟨b, eb, k⟩ := opt_pure xE q3 s3
      rw [dB_some eb] at hz
      refine ⟨b, isD_bl.mp hz, ?_⟩
      cases b with
      | false => exact Post.pure xE k s3 _ (isD_bl.mpr rfl)
      | true =>
        rw [if_pos rfl]
        have k : Post Z Er ExtE ((m3 ρ >>= fun u => (g e u >>= fun z => M.opt (dB z)) >>= fun k2 => if k2 = true then m4 ρ >>= fun w => h u w else pure (.bl false)) S3) H3 p3 _ := k
        have hE3 := ((hE.ext e1 hS).ext e2 s1).ext e3 s2
        refine hc σ H3 p3 ρ S3 _ hE3 s3 ((k.bnd xE).mono fun u S4 H4 p4 e4 s4 q4 uv hu => ?_)
        refine hr' w uv e u Er H4 p4 S4 _ (hw.ext (e3.trans e4).s) hu s4 (((q4.bnd xE).bnd xE).mono fun z2 S5 H5 p5 e5 s5 q5 zv2 hz2 => ?_)
        obtain ⟨b2, eb2, k2⟩ := opt_pure xE q5 s5
        rw [dB_some eb2] at hz2
        refine ⟨b2, isD_bl.mp hz2, ?_⟩
        cases b2 with
        | false => exact Post.pure xE k2 s5 _ (isD_bl.mpr rfl)
        | true =>
          rw [if_pos rfl]
          have k2 : Post Z Er ExtE ((m4 ρ >>= fun w => h u w) S5) H5 p5 _ := k2
          exact hd σ H5 p5 ρ S5 _ ((hE3.ext e4 s3).ext e5 s4) s5 ((k2.bnd xE).mono fun x S6 H6 p6 e6 s6 q6 xv hx => hr'' uv xv u x Er H6 p6 S6 _ (hu.ext (e5.trans e6).s) hx s6 q6))))
end
section
variable {X : Cx} {a b c d : Expr} {pos : Pos} {ta tb tc td : TE}
theorem pt_chain3 {p1 p2 p3 : CmpOp} {r r' r'' : L2.R2} (o1 : OpR X (compareOp p1) r) (o2 : OpR X (compareOp p2) r') (o3 : OpR X (compareOp p3) r'') (ea : PE X a ta) (eb : PE X b tb) (ec : PE X c tc) (ed : PE X d td)
    (nm : lastMarks [p1, p2, p3] [b, c, d] = false := by with_unfolding_all rfl) : PT X (.Compare a [p1, p2, p3] [b, c, d] pos) (tTest (tChain3 r r' r'' ta tb tc td)) := by
  refine ⟨fun pins s σ H Q I g => ?_⟩
  refine isTrue_chain (thn (ea.run pins s σ H _ I g) fun va s1 ⟨x, H1, I1, ra, g1⟩ => test_link (thn (eb.run pins s1 σ H1 _ I1 g1) fun vb s2 ⟨y, H2, I2, rb, g2⟩ =>
    thn (o1 pins s2 σ H2 x y va vb _ I2 ra rb g2) fun vz s3 ⟨z, H3, I3, rz, k, ez, g3⟩ => ?_)) nm
  subst ez
  cases rz
  refine wpAny_truthy_bool ?_
  cases k with
  | false =>
    obtain ⟨k', e', q'⟩ := g3
    cases e'
    exact ite_ff ⟨H3, I3, q'⟩
  | true =>
    refine ite_tt (test_link (thn (ec.run pins s3 σ H3 _ I3 g3) fun vc s4 ⟨x2, H4, I4, rc, g4⟩ => thn (o2 pins s4 σ H4 y x2 vb vc _ I4 rb rc g4) fun vz2 s5 ⟨z2, H5, I5, rz2, k2, ez2, g5⟩ => ?_))
    subst ez2
    cases rz2
    refine wpAny_truthy_bool ?_
    cases k2 with
    | false =>
      obtain ⟨k', e', q'⟩ := g5
      cases e'
      exact ite_ff ⟨H5, I5, q'⟩
    | true =>
      refine ite_tt (test_last (thn (ed.run pins s5 σ H5 _ I5 g5) fun vd s6 ⟨x3, H6, I6, rd, g6⟩ => thn (o3 pins s6 σ H6 x2 x3 vc vd _ I6 rc rd g6) fun vz3 s7 ⟨z3, H7, I7, rz3, k3, ez3, g7⟩ => ?_))
      subst ez3
      cases rz3
      exact wpAny_truthy_bool ⟨H7, I7, g7⟩
end
end Zd

/-! a law's end over the small head: facts of the module by names, each a test -/
namespace Zd
open PySem PySem.Spec PyProof.Rows L2 Zg
theorem all_i {l : List Bool} (h : l.all id = true) (i : Nat) {b : Bool} (e : l[i]? = some b) : b = true := List.all_eq_true.mp h b (List.mem_of_getElem? e)
/-- a def of the hook without defaults, bare -/
theorem rawD {K : PySem.W.Frag} {x qual : Str} {st : Stmt} {kws : List (Str × V)} {f : Addr} (h : ∃ fd, FunD K x qual (defArgs st) (defBody st) (defScope st) [] kws f fd) :
    ∃ (oc : Value) (od : Option Addr) (kV doc pm : Value) (an : Option Addr) (cdv ct : Value) (osl : Array (Option Value)),
      K.lookup f = some ⟨oc, od, .func (PySem.W.fnOf x qual (defArgs st) (defBody st) (defScope st) .none kV doc pm an cdv ct), osl⟩ ∧ PySem.W.codeIn K cdv qual = true ∧ PySem.W.keepIn K (.ref f) = true := by
  obtain ⟨fd, F⟩ := h
  obtain ⟨oc, od, dV, kV, doc, pm, an, cdv, ct, osl, e, l, c, hd, _⟩ := F.ex
  rcases hd with ⟨_, e2⟩ | ⟨e2, _⟩
  · subst e2
    subst e
    exact ⟨oc, od, kV, doc, pm, an, cdv, ct, osl, l, c, F.kp⟩
  · exact absurd rfl e2
/-- a module's whole number -/
def numB (K : PySem.W.Frag) (x : Str) (i : Int) : Bool := match PySem.W.nsIn K mainGlobals x with
  | some (some (.int j _)) => decide (j = i)
  | _ => false
theorem numB_ok {K : PySem.W.Frag} {x : Str} {i : Int} (h : numB K x i = true) : ∃ t, PySem.W.nsIn K mainGlobals x = some (some (.int i t)) := by
  unfold numB at h
  split at h
  · rename_i j t e
    rw [← of_decide_eq_true h]
    exact ⟨t, e⟩
  · cases h
/-- an own exception class over an own one -/
def oexB (K : PySem.W.Frag) (C CW : Addr) : Bool := match K.lookup C with
  | some ⟨.type "type", _, .cls cd, sl⟩ => (match sl.toList with
    | [_, _, _, _, some (.builtin n), _] => decide (n = "ValueError.__new__") && (decide (cd.mro = [.ref C, .ref CW, .type "ValueError", .type "Exception", .type "BaseException", .type "object"]) && (cd.hasDict && !cd.hasDel))
    | _ => false)
  | _ => false
theorem oexB_ok {K : PySem.W.Frag} {C CW : Addr} (h : oexB K C CW = true) : ∃ (nm q : Str) (N : Addr) (bs : List Value) (sn : List Str) (sub : List Value) (ab : Bool) (col : Option Bool) (dd : Option Addr) (m0 m1 m2 m3 m5 : Option Value),
    K.lookup C = some (excClassObj nm q C N bs [.ref CW, .type "ValueError", .type "Exception", .type "BaseException", .type "object"] true sn sub ab col dd m0 m1 m2 m3 m5 "ValueError.__new__") := by
  unfold oexB at h
  split at h
  · rename_i dd cd sl ho
    split at h
    · rename_i k0 k1 k2 k3 n k5 hs
      obtain ⟨h1, h⟩ := He.ba h
      obtain ⟨h2, h⟩ := He.ba h
      obtain ⟨h3, h4⟩ := He.ba h
      obtain ⟨nm, bs, mro, ns, qn, hd, sn, sub, ab, col, del⟩ := cd
      have e1 := of_decide_eq_true h1
      have e2 : mro = _ := of_decide_eq_true h2
      have e3 : hd = true := h3
      have e4 : del = false := by
        cases del with
        | false => rfl
        | true => cases h4
      subst e1 e2 e3 e4
      have hsl : sl = #[k0, k1, k2, k3, some (.builtin "ValueError.__new__"), k5] := by
        obtain ⟨l⟩ := sl
        simp only at hs
        rw [hs]
      subst hsl
      exact ⟨nm, qn, ns, bs, sn, sub, ab, col, dd, k0, k1, k2, k3, k5, ho⟩
    · cases h
  · cases h
/-- the table at a place of the hook -/
theorem tab_raw {fa : List He.Fa} {fn : List He.DefD} {ts : List He.Tab} {w : World} {K : PySem.W.Frag} (c : He.SaysT fa fn ts w K) (i : Nat) {t : He.Tab} (h : ts[i]? = some t) : He.dicW K (t.1 K) = some (He.keysIn w.params t.2) := by
  have e : ts.map (fun t => He.dicW K (t.1 K)) = ts.map fun t => some (He.keysIn w.params t.2) := congrArg (fun z : He.AlT => z.2) c
  have e2 : (ts.map fun t => He.dicW K (t.1 K))[i]? = (ts.map fun t => some (He.keysIn w.params t.2))[i]? := by rw [e]
  rw [List.getElem?_map, List.getElem?_map, h] at e2
  exact Option.some.inj e2
/-! ### a hook over places that are told -/
abbrev AlL : Type := He.AlT × Bool
def obsL (as : List Addr) (fn : List He.DefD) (ts : List He.Tab) (ex : PySem.W.Frag → Bool) (g : Addr → Option Obj) : AlL := (He.obsT [] fn ts (He.frG g as), ex (He.frG g as))
def hookL (as : List Addr) (fn : List He.DefD) (ts : List He.Tab) (ex : PySem.W.Frag → Bool) : PySem.W.Hook where
  α := AlL
  obs := fun s => obsL as fn ts ex s.heap.get?
  val := fun w => (He.valT fn ts w, true)
  says := fun w h => ∃ K : PySem.W.Frag, K.In h ∧ He.SaysT [] fn ts w K ∧ ex K = true
  of := fun _ _ e => ⟨_, He.frG_in, congrArg (fun z : AlL => z.1) e, congrArg (fun z : AlL => z.2) e⟩
  keeps := fun _ _ _ ⟨K, hK, c⟩ k => ⟨K, PySem.W.Frag.In.keeps hK k, c⟩
theorem obsL_eq {as : List Addr} {fn : List He.DefD} {ts : List He.Tab} {ex : PySem.W.Frag → Bool} {g : Addr → Option Obj} {s : Shared} (h : ∀ a, g a = s.heap.get? a) : obsL as fn ts ex g = (hookL as fn ts ex).obs s := by
  have e : g = s.heap.get? := funext h
  rw [e] <;> rfl
theorem map2 {α β γ : Type} {o : Option α} {f : α → β} {g : α → γ} {b : β} {c : γ} (h1 : o.map f = some b) (h2 : o.map g = some c) : o.map (fun s => (f s, g s)) = some (b, c) := by
  cases o with
  | none => cases h1
  | some x => rw [← Option.some.inj h1, ← Option.some.inj h2] <;> rfl
theorem map2a {α : Type} {o : Option α} {f g : α → Bool} (h1 : o.map f = some true) (h2 : o.map g = some true) : o.map (fun s => (f s && g s)) = some true := by
  cases o with
  | none => cases h1
  | some x =>
    show some (f x && g x) = some true
    rw [show f x = true from Option.some.inj h1, show g x = true from Option.some.inj h2] <;> rfl
/-- a law's end over a head by facts, the law's own run calm -/
theorem walkGE {l : PySem.W.OpenLaw} {n k : Nat} {q : Program} {loose : List Str} {XP : (Str → Option Value) → Heap → Prop} {YP : World → Heap → Prop} {d : DefRec} {sp : PySem.W.Frag → Sp} {x : Str}
    (most : l.most = some n) (line : n ≤ sizeLine) (nodef : d.params.defaults = []) (room : Room k callerA)
    (F : ∀ (w : World) (mg : Str → Option Value) (fa : Addr) (h : Heap), YP w h → h.Ns mainGlobals mg → mg d.name = some (.ref fa) →
      ∃ (K : PySem.W.Frag) (fd : FuncData), K.In h ∧ (∀ (s : Shared) (u : Value), BindsTo s fd ⟨[u], []⟩ [(x, u)]) ∧
        ∀ base : Heap, K.In base → base.Ns mainGlobals mg → FnG l.prog w K mg base CX0 k fa fd [x] (sp K))
    (hsp : ∀ (K : PySem.W.Frag) (H : Hp) (a : Addr) (ns : List Int), ns.length ≤ n → SqL K H a (ns.map V.int) → sp K [.ref a] H (fun v _ => v = .bl true) fun _ _ _ => False) :
    PySem.W.WalkO q loose XP YP l.row.toRowW d [] (fun f vs => PySem.call f vs) := by
  refine Att.attach_call most nodef fun w s0 s1 mg mb fa o pm cd doc a vs ns G Y _ _ _ named obj whole few gens => ?_
  obtain ⟨K, fd, kin, bind, all⟩ := F w mg fa _ Y G.T.g named
  exact lawG kin G.T.g G.T.b G.T.builtins G.T.nolimit gens obj whole (Nat.le_trans few line) room all bind fun H hS => hsp _ H a ns few hS
end Zd

namespace Zd
open PySem PySem.Spec PyProof.Rows L2 Zg
def top (i : Nat) : Stmt := PySem.Challenge.pw_widerkeys_k22_steps_by_hand.main.body.getD i (.Pass ⟨0, 0, 0, 0⟩)
abbrev t_STEP_FORMS : List (Str × List Str) := [("add", ["column"]), ("drop", ["column", "side"]), ("up", ["column"]), ("no up", ["column"]), ("down", ["column", "rule"]), ("no down", ["column"]), ("fill", ["column", "manner"]), ("fill back", ["column", "manner", "rule"]), ("release", ["program"]), ("withdraw", ["program"]), ("grow", ["number"]), ("purge", ["number"])]
abbrev t_POSSIBLE : List (Str × String) := [("add", "_can_add"), ("drop", "_can_drop"), ("up", "_can_mirror_up"), ("no up", "_is_up"), ("down", "_can_mirror_down"), ("no down", "_is_down"), ("fill", "_has_both"), ("fill back", "_has_both"), ("release", "_can_release"), ("withdraw", "_can_withdraw"), ("grow", "_can_grow"), ("purge", "_can_purge")]
abbrev t_CHANGES : List (Str × String) := [("add", "_add"), ("drop", "_drop"), ("up", "_mirror_up"), ("no up", "_end_up"), ("down", "_mirror_down"), ("no down", "_end_down"), ("fill", "_go_on"), ("fill back", "_go_on"), ("release", "_go_on"), ("withdraw", "_go_on"), ("grow", "_grow"), ("purge", "_purge")]
structure TxN (mg : Str → Option Value) (n_MOST_LETTERS : Tok) (n_MOST_STEPS : Tok) (n_LEAST_NUMBERS : Tok) (n_LEAST_NARROW : Tok) (n_MOST_PACE : Tok) (n_MOST_IN_TWO_EVENTS : Tok) : Prop where
  g_MOST_LETTERS : mg "MOST_LETTERS" = some (.int 8 n_MOST_LETTERS)
  g_MOST_STEPS : mg "MOST_STEPS" = some (.int 14 n_MOST_STEPS)
  g_LEAST_NUMBERS : mg "LEAST_NUMBERS" = some (.int 16 n_LEAST_NUMBERS)
  g_LEAST_NARROW : mg "LEAST_NARROW" = some (.int 16 n_LEAST_NARROW)
  g_MOST_PACE : mg "MOST_PACE" = some (.int 99 n_MOST_PACE)
  g_MOST_IN_TWO_EVENTS : mg "MOST_IN_TWO_EVENTS" = some (.int 2 n_MOST_IN_TWO_EVENTS)
abbrev s_is_integer : Stmt := (top 14)
abbrev N_is_integer : List Str := ["value"]
abbrev P_is_integer : List Str := ["value"]
theorem sc_is_integer : FnScope N_is_integer P_is_integer (defScope s_is_integer) := ⟨rfl, rfl, rfl, by decide +kernel, rfl, by decide +kernel, by decide +kernel⟩
def L_is_integer : List Dat → M Dat := runD N_is_integer.length (sRet (xAnd (xCB dIsi (xCons (xVar 0) (xCons (xC (.ty "int")) xNil))) (xNot (xCB dIsi (xCons (xVar 0) (xCons (xC (.ty "bool")) xNil))))))
abbrev s_is_between : Stmt := (top 15)
abbrev N_is_between : List Str := ["value", "low", "high"]
abbrev P_is_between : List Str := ["value", "low", "high"]
theorem sc_is_between : FnScope N_is_between P_is_between (defScope s_is_between) := ⟨rfl, rfl, rfl, by decide +kernel, rfl, by decide +kernel, by decide +kernel⟩
def L_is_between : List Dat → M Dat := runD N_is_between.length (sRet (xAnd (xCall L_is_integer (xCons (xVar 0) xNil)) (xChain dLe dLe (xVar 1) (xVar 0) (xVar 2))))
abbrev s_lesser : Stmt := (top 16)
abbrev N_lesser : List Str := ["one", "other"]
abbrev P_lesser : List Str := ["one", "other"]
theorem sc_lesser : FnScope N_lesser P_lesser (defScope s_lesser) := ⟨rfl, rfl, rfl, by decide +kernel, rfl, by decide +kernel, by decide +kernel⟩
def L_lesser : List Dat → M Dat := runD N_lesser.length (sRet (xIf (bTest (xOp dLe (xVar 0) (xVar 1))) (xVar 0) (xVar 1)))
abbrev s_greater : Stmt := (top 17)
abbrev N_greater : List Str := ["one", "other"]
abbrev P_greater : List Str := ["one", "other"]
theorem sc_greater : FnScope N_greater P_greater (defScope s_greater) := ⟨rfl, rfl, rfl, by decide +kernel, rfl, by decide +kernel, by decide +kernel⟩
def L_greater : List Dat → M Dat := runD N_greater.length (sRet (xIf (bTest (xOp dGe (xVar 0) (xVar 1))) (xVar 0) (xVar 1)))
abbrev s_is_name : Stmt := (top 25)
abbrev N_is_name : List Str := ["value"]
abbrev P_is_name : List Str := ["value"]
theorem sc_is_name : FnScope N_is_name P_is_name (defScope s_is_name) := ⟨rfl, rfl, rfl, by decide +kernel, rfl, by decide +kernel, by decide +kernel⟩
def L_is_name : List Dat → M Dat := runD N_is_name.length (sSeq (sIf (bOr (bNot (bTest (xCB dIsi (xCons (xVar 0) (xCons (xC (.ty "str")) xNil))))) (bTest (xOp dGt (xCB dLenS (xCons (xVar 0) xNil)) (xC (.int 8))))) (sRet (xC (.bl false))) sNx)
    (sRet (xAnd (xUn (dM0' Txt.isascii) (xVar 0)) (xAnd (xUn (dM0' Txt.isalpha) (xVar 0)) (xUn (dM0' Txt.islower) (xVar 0))))))
abbrev s_is_tuple_of : Stmt := (top 26)
abbrev N_is_tuple_of : List Str := ["value", "least", "most"]
abbrev P_is_tuple_of : List Str := ["value", "least", "most"]
theorem sc_is_tuple_of : FnScope N_is_tuple_of P_is_tuple_of (defScope s_is_tuple_of) := ⟨rfl, rfl, rfl, by decide +kernel, rfl, by decide +kernel, by decide +kernel⟩
def L_is_tuple_of : List Dat → M Dat := runD N_is_tuple_of.length (sRet (xAnd (xCB dIsi (xCons (xVar 0) (xCons (xC (.ty "tuple")) xNil))) (xChain dLe dLe (xVar 1) (xCB dLen (xCons (xVar 0) xNil)) (xVar 2))))
abbrev s_is_ascending : Stmt := (top 27)
abbrev N_is_ascending : List Str := ["items", "one", "other"]
abbrev P_is_ascending : List Str := ["items"]
theorem sc_is_ascending : FnScope N_is_ascending P_is_ascending (defScope s_is_ascending) := ⟨rfl, rfl, rfl, by decide +kernel, rfl, by decide +kernel, by decide +kernel⟩
def L_is_ascending : List Dat → M Dat := runD N_is_ascending.length (sRet (xCB dAll (xCons (xLc (iZipM (xCons (xVar 0) (xCons (jSl dCutL (xVar 0) (oSome (xC (.int 1))) oNone) xNil))) (gT 2 (gCo (gN 1) (gCo (gN 2) gNl))) bYes (xOp dLtS (xVar 1) (xVar 2)) [1, 2]) xNil)))
def L_is_ascendingT : List Dat → M Dat := runD N_is_ascending.length (sRet (xCB dAll (xCons (xLc (iZipM (xCons (xVar 0) (xCons (jSl dCutT (xVar 0) (oSome (xC (.int 1))) oNone) xNil))) (gT 2 (gCo (gN 1) (gCo (gN 2) gNl))) bYes (xOp dLtS (xVar 1) (xVar 2)) [1, 2]) xNil)))
abbrev s_is_count : Stmt := (top 30)
abbrev N_is_count : List Str := ["value"]
abbrev P_is_count : List Str := ["value"]
theorem sc_is_count : FnScope N_is_count P_is_count (defScope s_is_count) := ⟨rfl, rfl, rfl, by decide +kernel, rfl, by decide +kernel, by decide +kernel⟩
def L_is_count : List Dat → M Dat := runD N_is_count.length (sRet (xAnd (xCall L_is_integer (xCons (xVar 0) xNil)) (xOp dGe (xVar 0) (xC (.int 0)))))
abbrev s_is_plain_part : Stmt := (top 29)
abbrev N_is_plain_part : List Str := ["part", "item"]
abbrev P_is_plain_part : List Str := ["part", "item"]
theorem sc_is_plain_part : FnScope N_is_plain_part P_is_plain_part (defScope s_is_plain_part) := ⟨rfl, rfl, rfl, by decide +kernel, rfl, by decide +kernel, by decide +kernel⟩
def L_is_plain_part : List Dat → M Dat := runD N_is_plain_part.length (sSeq (sIf (bTest (xOp dEq (xVar 0) (xC (.str "side")))) (sRet (xOp (dInS false) (xVar 1) (xC (strsT ["narrow", "wide"])))) sNx)
    (sSeq (sIf (bTest (xOp dEq (xVar 0) (xC (.str "rule")))) (sRet (xOp (dInS false) (xVar 1) (xC (strsT ["cut", "empty", "refuse"])))) sNx)
    (sSeq (sIf (bTest (xOp dEq (xVar 0) (xC (.str "manner")))) (sRet (xOp (dInS false) (xVar 1) (xC (strsT ["empty", "anew"])))) sNx)
    (sSeq (sIf (bTest (xOp dEq (xVar 0) (xC (.str "number")))) (sRet (xCall L_is_integer (xCons (xVar 1) xNil))) sNx)
    (sRet (xCall L_is_count (xCons (xVar 1) xNil)))))))
abbrev s__first_word : Stmt := (top 31)
abbrev N__first_word : List Str := ["value"]
abbrev P__first_word : List Str := ["value"]
theorem sc__first_word : FnScope N__first_word P__first_word (defScope s__first_word) := ⟨rfl, rfl, rfl, by decide +kernel, rfl, by decide +kernel, by decide +kernel⟩
def L__first_word : List Dat → M Dat := runD N__first_word.length (sSeq (sIf (bOr (bNot (bTest (xCB dIsi (xCons (xVar 0) (xCons (xC (.ty "tuple")) xNil))))) (bOr (bNot (bTru (xVar 0))) (bNot (bTest (xCB dIsi (xCons (xOp dIxT (xVar 0) (xC (.int 0))) (xCons (xC (.ty "str")) xNil))))))) (sRet (xC (.str ""))) sNx)
    (sRet (xOp dIxT (xVar 0) (xC (.int 0)))))
abbrev s_step_form : Stmt := (top 28)
abbrev N_step_form : List Str := ["value"]
abbrev P_step_form : List Str := ["value"]
theorem sc_step_form : FnScope N_step_form P_step_form (defScope s_step_form) := ⟨rfl, rfl, rfl, by decide +kernel, rfl, by decide +kernel, by decide +kernel⟩
def L_step_form : List Dat → M Dat := runD N_step_form.length (sRet (xKGet t_STEP_FORMS (xCall L__first_word (xCons (xVar 0) xNil))))
abbrev s_other_side : Stmt := (top 2)
abbrev N_other_side : List Str := ["side"]
abbrev P_other_side : List Str := ["side"]
theorem sc_other_side : FnScope N_other_side P_other_side (defScope s_other_side) := ⟨rfl, rfl, rfl, by decide +kernel, rfl, by decide +kernel, by decide +kernel⟩
def L_other_side : List Dat → M Dat := runD N_other_side.length (sRet (xIf (bTest (xOp dEq (xVar 0) (xC (.str "narrow")))) (xC (.str "wide")) (xC (.str "narrow"))))
abbrev s_editions_of : Stmt := (top 1)
abbrev N_editions_of : List Str := ["world", "program", "name", "editions"]
abbrev P_editions_of : List Str := ["world", "program"]
theorem sc_editions_of : FnScope N_editions_of P_editions_of (defScope s_editions_of) := ⟨rfl, rfl, rfl, by decide +kernel, rfl, by decide +kernel, by decide +kernel⟩
def L_editions_of : List Dat → M Dat := runD N_editions_of.length (sSeq (sFor (iTp (xUn (dFldI "World" "programs") (xVar 0))) (gT 2 (gCo (gN 2) (gCo (gN 3) gNl))) (sIf (bTest (xOp dEq (xVar 2) (xVar 1))) (sRet (xVar 3)) sNx))
    (sRet (xTup xNil)))
abbrev s_is_span : Stmt := (top 33)
abbrev N_is_span : List Str := ["value", "first", "last"]
abbrev P_is_span : List Str := ["value"]
theorem sc_is_span : FnScope N_is_span P_is_span (defScope s_is_span) := ⟨rfl, rfl, rfl, by decide +kernel, rfl, by decide +kernel, by decide +kernel⟩
def L_is_span : List Dat → M Dat := runD N_is_span.length (sSeq (sIf (bOr (bNot (bTest (xCB dIsi (xCons (xVar 0) (xCons (xC (.ty "tuple")) xNil))))) (bTest (xOp dNe (xCB dLen (xCons (xVar 0) xNil)) (xC (.int 2))))) (sRet (xC (.bl false))) sNx)
    (sSeq (sAsg (xVar 0) (gT 2 (gCo (gN 1) (gCo (gN 2) gNl))))
    (sRet (xAnd (xCall L_is_integer (xCons (xVar 1) xNil)) (xAnd (xCall L_is_integer (xCons (xVar 2) xNil)) (xOp dLe (xVar 1) (xVar 2)))))))
abbrev s_Kind___init__ : Stmt := (inClass (top 74) 0)
abbrev N_Kind___init__ : List Str := ["self", "low", "high"]
abbrev P_Kind___init__ : List Str := ["self", "low", "high"]
theorem sc_Kind___init__ : FnScope N_Kind___init__ P_Kind___init__ (defScope s_Kind___init__) := ⟨rfl, rfl, rfl, by decide +kernel, rfl, by decide +kernel, by decide +kernel⟩
def L_Kind___init__ : List Dat → M Dat := runD N_Kind___init__.length (sSeq (sIf (bOr (bNot (bTest (xCall L_is_integer (xCons (xVar 1) xNil)))) (bOr (bNot (bTest (xCall L_is_integer (xCons (xVar 2) xNil)))) (bNot (bTest (xChain dLe dLe (xVar 1) (xC (.int 0)) (xVar 2)))))) sNo sNx)
    (sSeq (sSetFL "Kind" "low" (xVar 0) (xVar 1))
    (sSeq (sSetFL "Kind" "high" (xVar 0) (xVar 2))
    (sSetFL "Kind" "size" (xVar 0) (xOp dAdd (xOp dSub (xVar 2) (xVar 1)) (xC (.int 1)))))))
abbrev s_Kind___contains__ : Stmt := (inClass (top 74) 6)
abbrev N_Kind___contains__ : List Str := ["self", "number"]
abbrev P_Kind___contains__ : List Str := ["self", "number"]
theorem sc_Kind___contains__ : FnScope N_Kind___contains__ P_Kind___contains__ (defScope s_Kind___contains__) := ⟨rfl, rfl, rfl, by decide +kernel, rfl, by decide +kernel, by decide +kernel⟩
def L_Kind___contains__ : List Dat → M Dat := runD N_Kind___contains__.length (sRet (xCall L_is_between (xCons (xVar 1) (xCons (xUn (dFldI "Kind" "low") (xVar 0)) (xCons (xUn (dFldI "Kind" "high") (xVar 0)) xNil)))))
abbrev s_Kind___le__ : Stmt := (inClass (top 74) 8)
abbrev N_Kind___le__ : List Str := ["self", "other"]
abbrev P_Kind___le__ : List Str := ["self", "other"]
theorem sc_Kind___le__ : FnScope N_Kind___le__ P_Kind___le__ (defScope s_Kind___le__) := ⟨rfl, rfl, rfl, by decide +kernel, rfl, by decide +kernel, by decide +kernel⟩
def L_Kind___le__ : List Dat → M Dat := runD N_Kind___le__.length (sSeq (sIf (bNot (bTest (xCB (dIsiI "Kind") (xCons (xVar 1) (xCons (xC (.cls "Kind")) xNil))))) sNo sNx)
    (sRet (xAnd (xOp dLe (xUn (dFldI "Kind" "low") (xVar 1)) (xUn (dFldI "Kind" "low") (xVar 0))) (xOp dLe (xUn (dFldI "Kind" "high") (xVar 0)) (xUn (dFldI "Kind" "high") (xVar 1))))))
abbrev s_Kind___eq__ : Stmt := (inClass (top 74) 7)
abbrev N_Kind___eq__ : List Str := ["self", "other"]
abbrev P_Kind___eq__ : List Str := ["self", "other"]
theorem sc_Kind___eq__ : FnScope N_Kind___eq__ P_Kind___eq__ (defScope s_Kind___eq__) := ⟨rfl, rfl, rfl, by decide +kernel, rfl, by decide +kernel, by decide +kernel⟩
def L_Kind___eq__ : List Dat → M Dat := runD N_Kind___eq__.length (sRet (xAnd (xCB (dIsiI "Kind") (xCons (xVar 1) (xCons (xC (.cls "Kind")) xNil))) (xAnd (xOp dEq (xUn (dFldI "Kind" "low") (xVar 0)) (xUn (dFldI "Kind" "low") (xVar 1))) (xOp dEq (xUn (dFldI "Kind" "high") (xVar 0)) (xUn (dFldI "Kind" "high") (xVar 1))))))
abbrev s_Kind___lt__ : Stmt := (inClass (top 74) 9)
abbrev N_Kind___lt__ : List Str := ["self", "other"]
abbrev P_Kind___lt__ : List Str := ["self", "other"]
theorem sc_Kind___lt__ : FnScope N_Kind___lt__ P_Kind___lt__ (defScope s_Kind___lt__) := ⟨rfl, rfl, rfl, by decide +kernel, rfl, by decide +kernel, by decide +kernel⟩
def L_Kind___lt__ : List Dat → M Dat := runD N_Kind___lt__.length (sSeq (sIf (bNot (bTest (xCB (dIsiI "Kind") (xCons (xVar 1) (xCons (xC (.cls "Kind")) xNil))))) sNo sNx)
    (sRet (xAnd (xOp (dOwn2 "Kind" L_Kind___le__) (xVar 0) (xVar 1)) (xNot (xOp (dOwn2 "Kind" L_Kind___eq__) (xVar 0) (xVar 1))))))
abbrev s__are_none_or_many : Stmt := (top 37)
abbrev N__are_none_or_many : List Str := ["count"]
abbrev P__are_none_or_many : List Str := ["count"]
theorem sc__are_none_or_many : FnScope N__are_none_or_many P__are_none_or_many (defScope s__are_none_or_many) := ⟨rfl, rfl, rfl, by decide +kernel, rfl, by decide +kernel, by decide +kernel⟩
def L__are_none_or_many : List Dat → M Dat := runD N__are_none_or_many.length (sRet (xOr (xOp dLe (xVar 0) (xC (.int 0))) (xOp dGe (xVar 0) (xC (.int 16)))))
abbrev s_is_fit : Stmt := (top 36)
abbrev N_is_fit : List Str := ["world", "value", "first", "last", "smalls", "greats"]
abbrev P_is_fit : List Str := ["world", "value"]
theorem sc_is_fit : FnScope N_is_fit P_is_fit (defScope s_is_fit) := ⟨rfl, rfl, rfl, by decide +kernel, rfl, by decide +kernel, by decide +kernel⟩
def L_is_fit : List Dat → M Dat := runD N_is_fit.length (sSeq (sIf (bNot (bTest (xCall L_is_span (xCons (xVar 1) xNil)))) (sRet (xC (.bl false))) sNx)
    (sSeq (sAsg (xVar 1) (gT 2 (gCo (gN 2) (gCo (gN 3) gNl))))
    (sSeq (sIf (bOr (bTest (xOp dLt (xVar 2) (xUn (dFldI "Kind" "low") (xUn (dFldI "World" "narrow") (xVar 0))))) (bTest (xOp (dInI "Kind" true L_Kind___contains__) (xVar 3) (xUn (dFldI "World" "wide") (xVar 0))))) (sRet (xC (.bl false))) sNx)
    (sSeq (sAsg (xOp dAdd (xOp dSub (xCall L_lesser (xCons (xVar 3) (xCons (xUn (dFldI "Kind" "high") (xUn (dFldI "World" "narrow") (xVar 0))) xNil))) (xVar 2)) (xC (.int 1))) (gN 4))
    (sSeq (sAsg (xOp dAdd (xOp dSub (xVar 3) (xCall L_greater (xCons (xVar 2) (xCons (xOp dAdd (xUn (dFldI "Kind" "high") (xUn (dFldI "World" "narrow") (xVar 0))) (xC (.int 1))) xNil)))) (xC (.int 1))) (gN 5))
    (sRet (xAnd (xCall L__are_none_or_many (xCons (xVar 4) xNil)) (xCall L__are_none_or_many (xCons (xVar 5) xNil)))))))))
abbrev s__are_kinds : Stmt := (top 85)
abbrev N__are_kinds : List Str := ["narrow", "wide"]
abbrev P__are_kinds : List Str := ["narrow", "wide"]
theorem sc__are_kinds : FnScope N__are_kinds P__are_kinds (defScope s__are_kinds) := ⟨rfl, rfl, rfl, by decide +kernel, rfl, by decide +kernel, by decide +kernel⟩
def L__are_kinds : List Dat → M Dat := runD N__are_kinds.length (sSeq (sIf (bOr (bNot (bTest (xCB (dIsiI "Kind") (xCons (xVar 0) (xCons (xC (.cls "Kind")) xNil))))) (bNot (bTest (xCB (dIsiI "Kind") (xCons (xVar 1) (xCons (xC (.cls "Kind")) xNil)))))) (sRet (xC (.bl false))) sNx)
    (sRet (xAnd (xOp (dOwn2 "Kind" L_Kind___lt__) (xVar 0) (xVar 1)) (xOp dGe (xUn (dFldI "Kind" "size") (xVar 0)) (xC (.int 16))))))
abbrev s__are_columns : Stmt := (top 86)
abbrev N__are_columns : List Str := ["columns", "column"]
abbrev P__are_columns : List Str := ["columns"]
theorem sc__are_columns : FnScope N__are_columns P__are_columns (defScope s__are_columns) := ⟨rfl, rfl, rfl, by decide +kernel, rfl, by decide +kernel, by decide +kernel⟩
def L__are_columns : List Dat → M Dat := runD N__are_columns.length (sSeq (sIf (bOr (bNot (bTest (xCall L_is_tuple_of (xCons (xVar 0) (xCons (xC (.int 1)) (xCons (xC (.int 3)) xNil)))))) (bNot (bTest (xCB dAll (xCons (xLc (iTp (xVar 0)) (gN 1) bYes (xCall L_is_name (xCons (xVar 1) xNil)) [1]) xNil))))) (sRet (xC (.bl false))) sNx)
    (sRet (xCall L_is_ascendingT (xCons (xVar 0) xNil))))
abbrev s__are_rows : Stmt := (top 90)
abbrev N__are_rows : List Str := ["columns", "value", "many", "row"]
abbrev P__are_rows : List Str := ["columns", "value", "many"]
theorem sc__are_rows : FnScope N__are_rows P__are_rows (defScope s__are_rows) := ⟨rfl, rfl, rfl, by decide +kernel, rfl, by decide +kernel, by decide +kernel⟩
def L__are_rows : List Dat → M Dat := runD N__are_rows.length (sSeq (sIf (bNot (bTest (xCB dIsi (xCons (xVar 1) (xCons (xC (.ty "tuple")) xNil))))) (sRet (xC (.bl false))) sNx)
    (sSeq (sFor (iTp (xVar 1)) (gN 3) (sIf (bOr (bNot (bTest (xCall L_is_tuple_of (xCons (xVar 3) (xCons (xVar 2) (xCons (xVar 2) xNil)))))) (bTest (xOp (dInS true) (xOp dIxT (xVar 3) (xC (.int 0))) (xVar 0)))) (sRet (xC (.bl false))) sNx))
    (sRet (xCall L_is_ascending (xCons (xLc (iTp (xVar 1)) (gN 3) bYes (xOp dIxT (xVar 3) (xC (.int 0))) [3]) xNil)))))
abbrev s__is_read : Stmt := (top 91)
abbrev N__is_read : List Str := ["row", "_", "side", "deeds", "deed"]
abbrev P__is_read : List Str := ["row"]
theorem sc__is_read : FnScope N__is_read P__is_read (defScope s__is_read) := ⟨rfl, rfl, rfl, by decide +kernel, rfl, by decide +kernel, by decide +kernel⟩
def L__is_read : List Dat → M Dat := runD N__is_read.length (sSeq (sAsg (xVar 0) (gT 3 (gCo (gN 1) (gCo (gN 2) (gCo (gN 3) gNl)))))
    (sSeq (sIf (bOr (bTest (xOp (dInS true) (xVar 2) (xC (strsT ["narrow", "wide", "either"])))) (bNot (bTest (xCB dIsi (xCons (xVar 3) (xCons (xC (.ty "tuple")) xNil)))))) (sRet (xC (.bl false))) sNx)
    (sRet (xAnd (xCB dAll (xCons (xLc (iTp (xVar 3)) (gN 4) bYes (xOp (dInS false) (xVar 4) (xC (strsT ["match", "order", "show"]))) [4]) xNil)) (xCall L_is_ascendingT (xCons (xVar 3) xNil))))))
abbrev s__is_write : Stmt := (top 92)
abbrev N__is_write : List Str := ["sources", "row", "column", "how", "rule", "source", "pace"]
abbrev P__is_write : List Str := ["sources", "row"]
theorem sc__is_write : FnScope N__is_write P__is_write (defScope s__is_write) := ⟨rfl, rfl, rfl, by decide +kernel, rfl, by decide +kernel, by decide +kernel⟩
def L__is_write : List Dat → M Dat := runD N__is_write.length (sSeq (sAsg (xVar 1) (gT 5 (gCo (gN 2) (gCo (gN 3) (gCo (gN 4) (gCo (gN 5) (gCo (gN 6) gNl)))))))
    (sSeq (sIf (bOr (bTest (xOp (dInS true) (xVar 3) (xC (strsT ["narrow", "wide", "both", "narrow first", "wide first"])))) (bOr (bTest (xOp (dInS true) (xVar 4) (xC (strsT ["cut", "empty", "refuse"])))) (bNot (bTest (xCall L_is_between (xCons (xVar 6) (xCons (xC (.int 0)) (xCons (xC (.int 99)) xNil)))))))) (sRet (xC (.bl false))) sNx)
    (sRet (xOr (xOp dEq (xVar 5) (xC (.str ""))) (xAnd (xOp (dInS false) (xVar 5) (xVar 0)) (xOp dNe (xVar 5) (xVar 2)))))))
abbrev s__is_edition : Stmt := (top 89)
abbrev N__is_edition : List Str := ["columns", "value", "sight", "reads", "writes", "sources", "row"]
abbrev P__is_edition : List Str := ["columns", "value"]
theorem sc__is_edition : FnScope N__is_edition P__is_edition (defScope s__is_edition) := ⟨rfl, rfl, rfl, by decide +kernel, rfl, by decide +kernel, by decide +kernel⟩
def L__is_edition : List Dat → M Dat := runD N__is_edition.length (sSeq (sIf (bNot (bTest (xCall L_is_tuple_of (xCons (xVar 1) (xCons (xC (.int 3)) (xCons (xC (.int 3)) xNil)))))) (sRet (xC (.bl false))) sNx)
    (sSeq (sAsg (xVar 1) (gT 3 (gCo (gN 2) (gCo (gN 3) (gCo (gN 4) gNl)))))
    (sSeq (sIf (bOr (bTest (xOp (dInS true) (xVar 2) (xC (strsT ["narrow", "wide"])))) (bOr (bNot (bTest (xCall L__are_rows (xCons (xVar 0) (xCons (xVar 3) (xCons (xC (.int 3)) xNil)))))) (bNot (bTest (xCall L__are_rows (xCons (xVar 0) (xCons (xVar 4) (xCons (xC (.int 5)) xNil)))))))) (sRet (xC (.bl false))) sNx)
    (sSeq (sIf (bNot (bTest (xCB dAll (xCons (xLc (iTp (xVar 3)) (gN 6) bYes (xCall L__is_read (xCons (xVar 6) xNil)) [6]) xNil)))) (sRet (xC (.bl false))) sNx)
    (sSeq (sAsg (xLc (iTp (xVar 3)) (gN 6) bYes (xOp dIxT (xVar 6) (xC (.int 0))) [6]) (gN 5))
    (sRet (xCB dAll (xCons (xLc (iTp (xVar 4)) (gN 6) bYes (xCall L__is_write (xCons (xVar 5) (xCons (xVar 6) xNil))) [6]) xNil))))))))
abbrev s__is_first_edition : Stmt := (top 93)
abbrev N__is_first_edition : List Str := ["edition", "_", "reads", "writes", "row"]
abbrev P__is_first_edition : List Str := ["edition"]
theorem sc__is_first_edition : FnScope N__is_first_edition P__is_first_edition (defScope s__is_first_edition) := ⟨rfl, rfl, rfl, by decide +kernel, rfl, by decide +kernel, by decide +kernel⟩
def L__is_first_edition : List Dat → M Dat := runD N__is_first_edition.length (sSeq (sAsg (xVar 0) (gT 3 (gCo (gN 1) (gCo (gN 2) (gCo (gN 3) gNl)))))
    (sSeq (sIf (bNot (bTest (xCB dAll (xCons (xLc (iTp (xVar 2)) (gN 4) bYes (xOp (dInS false) (xOp dIxT (xVar 4) (xC (.int 1))) (xTup (xCons (xC (.str "narrow")) (xCons (xC (.str "either")) xNil)))) [4]) xNil)))) (sRet (xC (.bl false))) sNx)
    (sRet (xCB dAll (xCons (xLc (iTp (xVar 3)) (gN 4) bYes (xOp dEq (xOp dIxT (xVar 4) (xC (.int 1))) (xC (.str "narrow"))) [4]) xNil)))))
abbrev s__is_program : Stmt := (top 88)
abbrev N__is_program : List Str := ["columns", "value", "name", "editions", "edition"]
abbrev P__is_program : List Str := ["columns", "value"]
theorem sc__is_program : FnScope N__is_program P__is_program (defScope s__is_program) := ⟨rfl, rfl, rfl, by decide +kernel, rfl, by decide +kernel, by decide +kernel⟩
def L__is_program : List Dat → M Dat := runD N__is_program.length (sSeq (sIf (bNot (bTest (xCall L_is_tuple_of (xCons (xVar 1) (xCons (xC (.int 2)) (xCons (xC (.int 2)) xNil)))))) (sRet (xC (.bl false))) sNx)
    (sSeq (sAsg (xVar 1) (gT 2 (gCo (gN 2) (gCo (gN 3) gNl))))
    (sSeq (sIf (bOr (bNot (bTest (xCall L_is_name (xCons (xVar 2) xNil)))) (bNot (bTest (xCall L_is_tuple_of (xCons (xVar 3) (xCons (xC (.int 1)) (xCons (xC (.int 3)) xNil))))))) (sRet (xC (.bl false))) sNx)
    (sSeq (sIf (bNot (bTest (xCB dAll (xCons (xLc (iTp (xVar 3)) (gN 4) bYes (xCall L__is_edition (xCons (xVar 0) (xCons (xVar 4) xNil))) [4]) xNil)))) (sRet (xC (.bl false))) sNx)
    (sRet (xCall L__is_first_edition (xCons (xOp dIxT (xVar 3) (xC (.int 0))) xNil)))))))
abbrev s__many_in_two_events : Stmt := (top 94)
abbrev N__many_in_two_events : List Str := ["programs", "many", "_", "editions", "writes", "row"]
abbrev P__many_in_two_events : List Str := ["programs"]
theorem sc__many_in_two_events : FnScope N__many_in_two_events P__many_in_two_events (defScope s__many_in_two_events) := ⟨rfl, rfl, rfl, by decide +kernel, rfl, by decide +kernel, by decide +kernel⟩
def L__many_in_two_events : List Dat → M Dat := runD N__many_in_two_events.length (sSeq (sAsg (xC (.int 0)) (gN 1))
    (sSeq (sFor (iTp (xVar 0)) (gT 2 (gCo (gN 2) (gCo (gN 3) gNl))) (sFor (iTp (xVar 3)) (gT 3 (gCo (gN 2) (gCo (gN 2) (gCo (gN 4) gNl)))) (sAsg (xOp dAdd (xVar 1) (xCB dLen (xCons (xLc (iTp (xVar 4)) (gN 5) (bTest (xOp (dInS false) (xOp dIxT (xVar 5) (xC (.int 1))) (xC (strsT ["narrow first", "wide first"])))) (xVar 5) [5]) xNil))) (gN 1))))
    (sRet (xVar 1))))
abbrev s__are_programs : Stmt := (top 87)
abbrev N__are_programs : List Str := ["columns", "programs", "program", "name", "_"]
abbrev P__are_programs : List Str := ["columns", "programs"]
theorem sc__are_programs : FnScope N__are_programs P__are_programs (defScope s__are_programs) := ⟨rfl, rfl, rfl, by decide +kernel, rfl, by decide +kernel, by decide +kernel⟩
def L__are_programs : List Dat → M Dat := runD N__are_programs.length (sSeq (sIf (bNot (bTest (xCall L_is_tuple_of (xCons (xVar 1) (xCons (xC (.int 1)) (xCons (xC (.int 3)) xNil)))))) (sRet (xC (.bl false))) sNx)
    (sSeq (sIf (bNot (bTest (xCB dAll (xCons (xLc (iTp (xVar 1)) (gN 2) bYes (xCall L__is_program (xCons (xVar 0) (xCons (xVar 2) xNil))) [2]) xNil)))) (sRet (xC (.bl false))) sNx)
    (sSeq (sIf (bNot (bTest (xCall L_is_ascending (xCons (xLc (iTp (xVar 1)) (gT 2 (gCo (gN 3) (gCo (gN 4) gNl))) bYes (xVar 3) [3, 4]) xNil)))) (sRet (xC (.bl false))) sNx)
    (sRet (xOp dLe (xCall L__many_in_two_events (xCons (xVar 1) xNil)) (xC (.int 2)))))))
abbrev s_World___init__ : Stmt := (inClass (top 84) 0)
abbrev N_World___init__ : List Str := ["self", "narrow", "wide", "columns", "programs", "fits"]
abbrev P_World___init__ : List Str := ["self", "narrow", "wide", "columns", "programs"]
theorem sc_World___init__ : FnScope N_World___init__ P_World___init__ (defScope s_World___init__) := ⟨rfl, rfl, rfl, by decide +kernel, rfl, by decide +kernel, by decide +kernel⟩
def L_World___init__ : List Dat → M Dat := runD N_World___init__.length (sSeq (sAsg (xAnd (xCall L__are_kinds (xCons (xVar 1) (xCons (xVar 2) xNil))) (xAnd (xCall L__are_columns (xCons (xVar 3) xNil)) (xCall L__are_programs (xCons (xVar 3) (xCons (xVar 4) xNil))))) (gN 5))
    (sSeq (sIf (bNot (bTest (xVar 5))) sNo sNx)
    (sSeq (sSetFL "World" "narrow" (xVar 0) (xVar 1))
    (sSeq (sSetFL "World" "wide" (xVar 0) (xVar 2))
    (sSeq (sSetFL "World" "columns" (xVar 0) (xVar 3))
    (sSetFL "World" "programs" (xVar 0) (xVar 4)))))))
abbrev s_Setup___init__ : Stmt := (inClass (top 40) 0)
abbrev N_Setup___init__ : List Str := ["self", "world", "span", "name", "_", "column"]
abbrev P_Setup___init__ : List Str := ["self", "world", "span"]
theorem sc_Setup___init__ : FnScope N_Setup___init__ P_Setup___init__ (defScope s_Setup___init__) := ⟨rfl, rfl, rfl, by decide +kernel, rfl, by decide +kernel, by decide +kernel⟩
def L_Setup___init__ : List Dat → M Dat := runD N_Setup___init__.length (sSeq (sSetFL "Setup" "world" (xVar 0) (xVar 1))
    (sSeq (sSetFL "Setup" "editions" (xVar 0) (xNewLo (xDc (iTp (xUn (dFldI "World" "programs") (xVar 1))) (gT 2 (gCo (gN 3) (gCo (gN 4) gNl))) bYes (xVar 3) (xC (.int 0)) [3, 4])))
    (sSeq (sSetFL "Setup" "sides" (xVar 0) (xNewLo (xDc (iTp (xUn (dFldI "World" "columns") (xVar 1))) (gN 5) bYes (xVar 5) (xC (.str "narrow")) [5])))
    (sSeq (sSetFL "Setup" "ups" (xVar 0) (xNewLo xDic0))
    (sSeq (sSetFL "Setup" "downs" (xVar 0) (xNewLo xDic0))
    (sSeq (sSetFL "Setup" "going" (xVar 0) (xTup xNil))
    (sSeq (sSetFL "Setup" "span" (xVar 0) (xVar 2))
    (sSetFL "Setup" "lasts" (xVar 0) (xNewLo (xLst (xCons (xOp dIxT (xVar 2) (xC (.int 1))) xNil)))))))))))
abbrev s__twin : Stmt := (top 41)
abbrev N__twin : List Str := ["setup", "twin"]
abbrev P__twin : List Str := ["setup"]
theorem sc__twin : FnScope N__twin P__twin (defScope s__twin) := ⟨rfl, rfl, rfl, by decide +kernel, rfl, by decide +kernel, by decide +kernel⟩
def L__twin : List Dat → M Dat := runD N__twin.length (sSeq (sAsg (xCall (mkNew "Setup" L_Setup___init__) (xCons (xUn (dFldI "Setup" "world") (xVar 0)) (xCons (xUn (dFldI "Setup" "span") (xVar 0)) xNil))) (gN 1))
    (sSeq (sSetFL "Setup" "editions" (xVar 1) (xNewLo (xCB dDictOf (xCons (xUn (dFldI "Setup" "editions") (xVar 0)) xNil))))
    (sSeq (sSetFL "Setup" "sides" (xVar 1) (xNewLo (xCB dDictOf (xCons (xUn (dFldI "Setup" "sides") (xVar 0)) xNil))))
    (sSeq (sSetFL "Setup" "ups" (xVar 1) (xNewLo (xCB dDictOf (xCons (xUn (dFldI "Setup" "ups") (xVar 0)) xNil))))
    (sSeq (sSetFL "Setup" "downs" (xVar 1) (xNewLo (xCB dDictOf (xCons (xUn (dFldI "Setup" "downs") (xVar 0)) xNil))))
    (sSeq (sSetFL "Setup" "lasts" (xVar 1) (xNewLo (xCB dList (xCons (xUn (dFldI "Setup" "lasts") (xVar 0)) xNil))))
    (sRet (xVar 1))))))))
abbrev s__running : Stmt := (top 42)
abbrev N__running : List Str := ["setup", "program", "edition"]
abbrev P__running : List Str := ["setup", "program"]
theorem sc__running : FnScope N__running P__running (defScope s__running) := ⟨rfl, rfl, rfl, by decide +kernel, rfl, by decide +kernel, by decide +kernel⟩
def L__running : List Dat → M Dat := runD N__running.length (sSeq (sAsg (xDGet (xUn (dFldI "Setup" "editions") (xVar 0)) (xVar 1)) (gN 2))
    (sSeq (sIf (bTest (xOp dEqT (xUn (dFldI "Setup" "going") (xVar 0)) (xTup (xCons (xC (.str "release")) (xCons (xVar 1) xNil))))) (sRet (xTup (xCons (xVar 2) (xCons (xOp dAdd (xVar 2) (xC (.int 1))) xNil)))) sNx)
    (sSeq (sIf (bTest (xOp dEqT (xUn (dFldI "Setup" "going") (xVar 0)) (xTup (xCons (xC (.str "withdraw")) (xCons (xVar 1) xNil))))) (sRet (xTup (xCons (xOp dSub (xVar 2) (xC (.int 1))) (xCons (xVar 2) xNil)))) sNx)
    (sRet (xTup (xCons (xVar 2) xNil))))))
abbrev s__has_both : Stmt := (top 55)
abbrev N__has_both : List Str := ["setup", "step"]
abbrev P__has_both : List Str := ["setup", "step"]
theorem sc__has_both : FnScope N__has_both P__has_both (defScope s__has_both) := ⟨rfl, rfl, rfl, by decide +kernel, rfl, by decide +kernel, by decide +kernel⟩
def L__has_both : List Dat → M Dat := runD N__has_both.length (sRet (xOp dEq (xDGet (xUn (dFldI "Setup" "sides") (xVar 0)) (xOp dIxT (xVar 1) (xC (.int 1)))) (xC (.str "both"))))
abbrev s__can_add : Stmt := (top 43)
abbrev N__can_add : List Str := ["setup", "step"]
abbrev P__can_add : List Str := ["setup", "step"]
theorem sc__can_add : FnScope N__can_add P__can_add (defScope s__can_add) := ⟨rfl, rfl, rfl, by decide +kernel, rfl, by decide +kernel, by decide +kernel⟩
def L__can_add : List Dat → M Dat := runD N__can_add.length (sRet (xOp dEq (xDGet (xUn (dFldI "Setup" "sides") (xVar 0)) (xOp dIxT (xVar 1) (xC (.int 1)))) (xC (.str "narrow"))))
abbrev s__add : Stmt := (top 44)
abbrev N__add : List Str := ["setup", "step"]
abbrev P__add : List Str := ["setup", "step"]
theorem sc__add : FnScope N__add P__add (defScope s__add) := ⟨rfl, rfl, rfl, by decide +kernel, rfl, by decide +kernel, by decide +kernel⟩
def L__add : List Dat → M Dat := runD N__add.length (sDPutLo (xUn (dFldI "Setup" "sides") (xVar 0)) (xOp dIxT (xVar 1) (xC (.int 1))) (xC (.str "both")))
abbrev s__can_drop : Stmt := (top 45)
abbrev N__can_drop : List Str := ["setup", "step"]
abbrev P__can_drop : List Str := ["setup", "step"]
theorem sc__can_drop : FnScope N__can_drop P__can_drop (defScope s__can_drop) := ⟨rfl, rfl, rfl, by decide +kernel, rfl, by decide +kernel, by decide +kernel⟩
def L__can_drop : List Dat → M Dat := runD N__can_drop.length (sRet (xAnd (xCall L__has_both (xCons (xVar 0) (xCons (xVar 1) xNil))) (xAnd (xDIn true (xOp dIxT (xVar 1) (xC (.int 1))) (xUn (dFldI "Setup" "ups") (xVar 0))) (xDIn true (xOp dIxT (xVar 1) (xC (.int 1))) (xUn (dFldI "Setup" "downs") (xVar 0))))))
abbrev s__drop : Stmt := (top 46)
abbrev N__drop : List Str := ["setup", "step"]
abbrev P__drop : List Str := ["setup", "step"]
theorem sc__drop : FnScope N__drop P__drop (defScope s__drop) := ⟨rfl, rfl, rfl, by decide +kernel, rfl, by decide +kernel, by decide +kernel⟩
def L__drop : List Dat → M Dat := runD N__drop.length (sDPutLo (xUn (dFldI "Setup" "sides") (xVar 0)) (xOp dIxT (xVar 1) (xC (.int 1))) (xCall L_other_side (xCons (xOp dIxT (xVar 1) (xC (.int 2))) xNil)))
abbrev s__can_mirror_up : Stmt := (top 47)
abbrev N__can_mirror_up : List Str := ["setup", "step"]
abbrev P__can_mirror_up : List Str := ["setup", "step"]
theorem sc__can_mirror_up : FnScope N__can_mirror_up P__can_mirror_up (defScope s__can_mirror_up) := ⟨rfl, rfl, rfl, by decide +kernel, rfl, by decide +kernel, by decide +kernel⟩
def L__can_mirror_up : List Dat → M Dat := runD N__can_mirror_up.length (sRet (xAnd (xCall L__has_both (xCons (xVar 0) (xCons (xVar 1) xNil))) (xDIn true (xOp dIxT (xVar 1) (xC (.int 1))) (xUn (dFldI "Setup" "ups") (xVar 0)))))
abbrev s__mirror_up : Stmt := (top 48)
abbrev N__mirror_up : List Str := ["setup", "step"]
abbrev P__mirror_up : List Str := ["setup", "step"]
theorem sc__mirror_up : FnScope N__mirror_up P__mirror_up (defScope s__mirror_up) := ⟨rfl, rfl, rfl, by decide +kernel, rfl, by decide +kernel, by decide +kernel⟩
def L__mirror_up : List Dat → M Dat := runD N__mirror_up.length (sDPutLo (xUn (dFldI "Setup" "ups") (xVar 0)) (xOp dIxT (xVar 1) (xC (.int 1))) (xC (.bl true)))
abbrev s__is_up : Stmt := (top 49)
abbrev N__is_up : List Str := ["setup", "step"]
abbrev P__is_up : List Str := ["setup", "step"]
theorem sc__is_up : FnScope N__is_up P__is_up (defScope s__is_up) := ⟨rfl, rfl, rfl, by decide +kernel, rfl, by decide +kernel, by decide +kernel⟩
def L__is_up : List Dat → M Dat := runD N__is_up.length (sRet (xDIn false (xOp dIxT (xVar 1) (xC (.int 1))) (xUn (dFldI "Setup" "ups") (xVar 0))))
abbrev s__end_up : Stmt := (top 50)
abbrev N__end_up : List Str := ["setup", "step"]
abbrev P__end_up : List Str := ["setup", "step"]
theorem sc__end_up : FnScope N__end_up P__end_up (defScope s__end_up) := ⟨rfl, rfl, rfl, by decide +kernel, rfl, by decide +kernel, by decide +kernel⟩
def L__end_up : List Dat → M Dat := runD N__end_up.length (sDDelLo (xUn (dFldI "Setup" "ups") (xVar 0)) (xOp dIxT (xVar 1) (xC (.int 1))))
abbrev s__can_mirror_down : Stmt := (top 51)
abbrev N__can_mirror_down : List Str := ["setup", "step"]
abbrev P__can_mirror_down : List Str := ["setup", "step"]
theorem sc__can_mirror_down : FnScope N__can_mirror_down P__can_mirror_down (defScope s__can_mirror_down) := ⟨rfl, rfl, rfl, by decide +kernel, rfl, by decide +kernel, by decide +kernel⟩
def L__can_mirror_down : List Dat → M Dat := runD N__can_mirror_down.length (sRet (xAnd (xCall L__has_both (xCons (xVar 0) (xCons (xVar 1) xNil))) (xDIn true (xOp dIxT (xVar 1) (xC (.int 1))) (xUn (dFldI "Setup" "downs") (xVar 0)))))
abbrev s__mirror_down : Stmt := (top 52)
abbrev N__mirror_down : List Str := ["setup", "step"]
abbrev P__mirror_down : List Str := ["setup", "step"]
theorem sc__mirror_down : FnScope N__mirror_down P__mirror_down (defScope s__mirror_down) := ⟨rfl, rfl, rfl, by decide +kernel, rfl, by decide +kernel, by decide +kernel⟩
def L__mirror_down : List Dat → M Dat := runD N__mirror_down.length (sDPutLo (xUn (dFldI "Setup" "downs") (xVar 0)) (xOp dIxT (xVar 1) (xC (.int 1))) (xOp dIxT (xVar 1) (xC (.int 2))))
abbrev s__is_down : Stmt := (top 53)
abbrev N__is_down : List Str := ["setup", "step"]
abbrev P__is_down : List Str := ["setup", "step"]
theorem sc__is_down : FnScope N__is_down P__is_down (defScope s__is_down) := ⟨rfl, rfl, rfl, by decide +kernel, rfl, by decide +kernel, by decide +kernel⟩
def L__is_down : List Dat → M Dat := runD N__is_down.length (sRet (xDIn false (xOp dIxT (xVar 1) (xC (.int 1))) (xUn (dFldI "Setup" "downs") (xVar 0))))
abbrev s__end_down : Stmt := (top 54)
abbrev N__end_down : List Str := ["setup", "step"]
abbrev P__end_down : List Str := ["setup", "step"]
theorem sc__end_down : FnScope N__end_down P__end_down (defScope s__end_down) := ⟨rfl, rfl, rfl, by decide +kernel, rfl, by decide +kernel, by decide +kernel⟩
def L__end_down : List Dat → M Dat := runD N__end_down.length (sDDelLo (xUn (dFldI "Setup" "downs") (xVar 0)) (xOp dIxT (xVar 1) (xC (.int 1))))
abbrev s__can_release : Stmt := (top 56)
abbrev N__can_release : List Str := ["setup", "step"]
abbrev P__can_release : List Str := ["setup", "step"]
theorem sc__can_release : FnScope N__can_release P__can_release (defScope s__can_release) := ⟨rfl, rfl, rfl, by decide +kernel, rfl, by decide +kernel, by decide +kernel⟩
def L__can_release : List Dat → M Dat := runD N__can_release.length (sRet (xOp dLt (xOp dAdd (xDGet (xUn (dFldI "Setup" "editions") (xVar 0)) (xOp dIxT (xVar 1) (xC (.int 1)))) (xC (.int 1))) (xCB dLen (xCons (xCall L_editions_of (xCons (xUn (dFldI "Setup" "world") (xVar 0)) (xCons (xOp dIxT (xVar 1) (xC (.int 1))) xNil))) xNil))))
abbrev s__can_withdraw : Stmt := (top 57)
abbrev N__can_withdraw : List Str := ["setup", "step"]
abbrev P__can_withdraw : List Str := ["setup", "step"]
theorem sc__can_withdraw : FnScope N__can_withdraw P__can_withdraw (defScope s__can_withdraw) := ⟨rfl, rfl, rfl, by decide +kernel, rfl, by decide +kernel, by decide +kernel⟩
def L__can_withdraw : List Dat → M Dat := runD N__can_withdraw.length (sRet (xOp dGt (xDGet (xUn (dFldI "Setup" "editions") (xVar 0)) (xOp dIxT (xVar 1) (xC (.int 1)))) (xC (.int 0))))
abbrev s__go_on : Stmt := (top 58)
abbrev N__go_on : List Str := ["setup", "step"]
abbrev P__go_on : List Str := ["setup", "step"]
theorem sc__go_on : FnScope N__go_on P__go_on (defScope s__go_on) := ⟨rfl, rfl, rfl, by decide +kernel, rfl, by decide +kernel, by decide +kernel⟩
def L__go_on : List Dat → M Dat := runD N__go_on.length (sSetFL "Setup" "going" (xVar 0) (xVar 1))
abbrev s__can_grow : Stmt := (top 59)
abbrev N__can_grow : List Str := ["setup", "step", "first", "last"]
abbrev P__can_grow : List Str := ["setup", "step"]
theorem sc__can_grow : FnScope N__can_grow P__can_grow (defScope s__can_grow) := ⟨rfl, rfl, rfl, by decide +kernel, rfl, by decide +kernel, by decide +kernel⟩
def L__can_grow : List Dat → M Dat := runD N__can_grow.length (sSeq (sAsg (xUn (dFldI "Setup" "span") (xVar 0)) (gT 2 (gCo (gN 2) (gCo (gN 3) gNl))))
    (sRet (xAnd (xOp dGt (xOp dIxT (xVar 1) (xC (.int 1))) (xVar 3)) (xCall L_is_fit (xCons (xUn (dFldI "Setup" "world") (xVar 0)) (xCons (xTup (xCons (xVar 2) (xCons (xOp dIxT (xVar 1) (xC (.int 1))) xNil))) xNil))))))
abbrev s__grow : Stmt := (top 60)
abbrev N__grow : List Str := ["setup", "step"]
abbrev P__grow : List Str := ["setup", "step"]
theorem sc__grow : FnScope N__grow P__grow (defScope s__grow) := ⟨rfl, rfl, rfl, by decide +kernel, rfl, by decide +kernel, by decide +kernel⟩
def L__grow : List Dat → M Dat := runD N__grow.length (sSeq (sSetFL "Setup" "span" (xVar 0) (xTup (xCons (xOp dIxT (xUn (dFldI "Setup" "span") (xVar 0)) (xC (.int 0))) (xCons (xOp dIxT (xVar 1) (xC (.int 1))) xNil))))
    (sAppLo (xUn (dFldI "Setup" "lasts") (xVar 0)) (xCons (xOp dIxT (xVar 1) (xC (.int 1))) xNil)))
abbrev s__can_purge : Stmt := (top 61)
abbrev N__can_purge : List Str := ["setup", "step", "first", "last", "spans", "used", "span"]
abbrev P__can_purge : List Str := ["setup", "step"]
theorem sc__can_purge : FnScope N__can_purge P__can_purge (defScope s__can_purge) := ⟨rfl, rfl, rfl, by decide +kernel, rfl, by decide +kernel, by decide +kernel⟩
def L__can_purge : List Dat → M Dat := runD N__can_purge.length (sSeq (sAsg (xUn (dFldI "Setup" "span") (xVar 0)) (gT 2 (gCo (gN 2) (gCo (gN 3) gNl))))
    (sSeq (sIf (bNot (bTest (xChain dLt dLe (xVar 2) (xOp dIxT (xVar 1) (xC (.int 1))) (xVar 3)))) (sRet (xC (.bl false))) sNx)
    (sSeq (sAsg (xLc (iLst (xUn (dFldI "Setup" "lasts") (xVar 0))) (gN 5) (bTest (xOp dGe (xVar 5) (xOp dIxT (xVar 1) (xC (.int 1))))) (xTup (xCons (xOp dIxT (xVar 1) (xC (.int 1))) (xCons (xVar 5) xNil))) [5]) (gN 4))
    (sRet (xCB dAll (xCons (xLc (iLst (xVar 4)) (gN 6) bYes (xCall L_is_fit (xCons (xUn (dFldI "Setup" "world") (xVar 0)) (xCons (xVar 6) xNil))) [6]) xNil))))))
abbrev s__purge : Stmt := (top 62)
abbrev N__purge : List Str := ["setup", "step"]
abbrev P__purge : List Str := ["setup", "step"]
theorem sc__purge : FnScope N__purge P__purge (defScope s__purge) := ⟨rfl, rfl, rfl, by decide +kernel, rfl, by decide +kernel, by decide +kernel⟩
def L__purge : List Dat → M Dat := runD N__purge.length (sSetFL "Setup" "span" (xVar 0) (xTup (xCons (xOp dIxT (xVar 1) (xC (.int 1))) (xCons (xOp dIxT (xUn (dFldI "Setup" "span") (xVar 0)) (xC (.int 1))) xNil))))
def T_POSSIBLE : List (String × (List Dat → M Dat)) := [("_can_add", L__can_add), ("_can_drop", L__can_drop), ("_can_mirror_up", L__can_mirror_up), ("_is_up", L__is_up), ("_can_mirror_down", L__can_mirror_down), ("_is_down", L__is_down), ("_has_both", L__has_both), ("_can_release", L__can_release), ("_can_withdraw", L__can_withdraw), ("_can_grow", L__can_grow), ("_can_purge", L__can_purge)]
def T_CHANGES : List (String × (List Dat → M Dat)) := [("_add", L__add), ("_drop", L__drop), ("_mirror_up", L__mirror_up), ("_end_up", L__end_up), ("_mirror_down", L__mirror_down), ("_end_down", L__end_down), ("_go_on", L__go_on), ("_grow", L__grow), ("_purge", L__purge)]
abbrev s_Setup_behind_begin : Stmt := (inClass (top 40) 1)
abbrev N_Setup_behind_begin : List Str := ["self", "step", "possible", "after", "change"]
abbrev P_Setup_behind_begin : List Str := ["self", "step"]
theorem sc_Setup_behind_begin : FnScope N_Setup_behind_begin P_Setup_behind_begin (defScope s_Setup_behind_begin) := ⟨rfl, rfl, rfl, by decide +kernel, rfl, by decide +kernel, by decide +kernel⟩
def L_Setup_behind_begin : List Dat → M Dat := runD N_Setup_behind_begin.length (sSeq (sAsg (xKIx t_POSSIBLE (xOp dIxT (xVar 1) (xC (.int 0)))) (gN 2))
    (sSeq (sIf (bOr (bTru (xUn (dFldI "Setup" "going") (xVar 0))) (bNot (bTest (xCallT T_POSSIBLE 2 (xCons (xVar 0) (xCons (xVar 1) xNil)))))) (sRet (xC .non)) sNx)
    (sSeq (sAsg (xCall L__twin (xCons (xVar 0) xNil)) (gN 3))
    (sSeq (sAsg (xKIx t_CHANGES (xOp dIxT (xVar 1) (xC (.int 0)))) (gN 4))
    (sSeq (sDrop (xCallT T_CHANGES 4 (xCons (xVar 3) (xCons (xVar 1) xNil))))
    (sRet (xVar 3)))))))
abbrev s_Setup_behind_end : Stmt := (inClass (top 40) 2)
abbrev N_Setup_behind_end : List Str := ["self", "after"]
abbrev P_Setup_behind_end : List Str := ["self"]
theorem sc_Setup_behind_end : FnScope N_Setup_behind_end P_Setup_behind_end (defScope s_Setup_behind_end) := ⟨rfl, rfl, rfl, by decide +kernel, rfl, by decide +kernel, by decide +kernel⟩
def L_Setup_behind_end : List Dat → M Dat := runD N_Setup_behind_end.length (sSeq (sAsg (xCall L__twin (xCons (xVar 0) xNil)) (gN 1))
    (sSeq (sIf (bTest (xOp dEq (xOp dIxT (xUn (dFldI "Setup" "going") (xVar 0)) (xC (.int 0))) (xC (.str "release")))) (sDPutLo (xUn (dFldI "Setup" "editions") (xVar 1)) (xOp dIxT (xUn (dFldI "Setup" "going") (xVar 0)) (xC (.int 1))) (xOp dAdd (xDGet (xUn (dFldI "Setup" "editions") (xVar 0)) (xOp dIxT (xUn (dFldI "Setup" "going") (xVar 0)) (xC (.int 1)))) (xC (.int 1)))) sNx)
    (sSeq (sIf (bTest (xOp dEq (xOp dIxT (xUn (dFldI "Setup" "going") (xVar 0)) (xC (.int 0))) (xC (.str "withdraw")))) (sDPutLo (xUn (dFldI "Setup" "editions") (xVar 1)) (xOp dIxT (xUn (dFldI "Setup" "going") (xVar 0)) (xC (.int 1))) (xOp dSub (xDGet (xUn (dFldI "Setup" "editions") (xVar 0)) (xOp dIxT (xUn (dFldI "Setup" "going") (xVar 0)) (xC (.int 1)))) (xC (.int 1)))) sNx)
    (sRet (xVar 1)))))
abbrev s_Setup_what_holds : Stmt := (inClass (top 40) 3)
abbrev N_Setup_what_holds : List Str := ["self", "running", "mirrors", "name", "_", "edition", "column", "sides", "fill"]
abbrev P_Setup_what_holds : List Str := ["self"]
theorem sc_Setup_what_holds : FnScope N_Setup_what_holds P_Setup_what_holds (defScope s_Setup_what_holds) := ⟨rfl, rfl, rfl, by decide +kernel, rfl, by decide +kernel, by decide +kernel⟩
def L_Setup_what_holds : List Dat → M Dat := runD N_Setup_what_holds.length (sSeq (sAsg (xNewLo (xLst xNil)) (gN 1))
    (sSeq (sAsg (xNewLo (xLst xNil)) (gN 2))
    (sSeq (sFor (iTp (xUn (dFldI "World" "programs") (xUn (dFldI "Setup" "world") (xVar 0)))) (gT 2 (gCo (gN 3) (gCo (gN 4) gNl))) (sFor (iTp (xCall L__running (xCons (xVar 0) (xCons (xVar 3) xNil)))) (gN 5) (sAppLo (xVar 1) (xCons (xTup (xCons (xVar 3) (xCons (xVar 5) xNil))) xNil))))
    (sSeq (sFor (iTp (xUn (dFldI "World" "columns") (xUn (dFldI "Setup" "world") (xVar 0)))) (gN 6) (sSeq (sIf (bTest (xDIn false (xVar 6) (xUn (dFldI "Setup" "downs") (xVar 0)))) (sAppLo (xVar 2) (xCons (xTup (xCons (xVar 6) (xCons (xC (.str "down")) (xCons (xDGet (xUn (dFldI "Setup" "downs") (xVar 0)) (xVar 6)) xNil)))) xNil)) sNx)
    (sIf (bTest (xDIn false (xVar 6) (xUn (dFldI "Setup" "ups") (xVar 0)))) (sAppLo (xVar 2) (xCons (xTup (xCons (xVar 6) (xCons (xC (.str "up")) (xCons (xC (.str "")) xNil)))) xNil)) sNx)))
    (sSeq (sAsg (xCB dTuple (xCons (xLc (iTp (xUn (dFldI "World" "columns") (xUn (dFldI "Setup" "world") (xVar 0)))) (gN 6) bYes (xDGet (xUn (dFldI "Setup" "sides") (xVar 0)) (xVar 6)) [6]) xNil)) (gN 7))
    (sSeq (sAsg (xIf (bAnd (bTru (xUn (dFldI "Setup" "going") (xVar 0))) (bTest (xOp (dInS false) (xOp dIxT (xUn (dFldI "Setup" "going") (xVar 0)) (xC (.int 0))) (xC (strsT ["fill", "fill back"]))))) (xUn (dFldI "Setup" "going") (xVar 0)) (xTup xNil)) (gN 8))
    (sRet (xTup (xCons (xCB dTupleLo (xCons (xVar 1) xNil)) (xCons (xVar 7) (xCons (xCB dTupleLo (xCons (xVar 2) xNil)) (xCons (xVar 8) (xCons (xUn (dFldI "Setup" "span") (xVar 0)) xNil)))))))))))))
abbrev s__is_part : Stmt := (top 70)
abbrev N__is_part : List Str := ["world", "part", "item"]
abbrev P__is_part : List Str := ["world", "part", "item"]
theorem sc__is_part : FnScope N__is_part P__is_part (defScope s__is_part) := ⟨rfl, rfl, rfl, by decide +kernel, rfl, by decide +kernel, by decide +kernel⟩
def L__is_part : List Dat → M Dat := runD N__is_part.length (sSeq (sIf (bTest (xOp dEq (xVar 1) (xC (.str "column")))) (sRet (xOp (dInS false) (xVar 2) (xUn (dFldI "World" "columns") (xVar 0)))) sNx)
    (sSeq (sIf (bTest (xOp dEq (xVar 1) (xC (.str "program")))) (sRet (xOp (dEqD true) (xCall L_editions_of (xCons (xVar 0) (xCons (xVar 2) xNil))) (xTup xNil))) sNx)
    (sRet (xCall L_is_plain_part (xCons (xVar 1) (xCons (xVar 2) xNil))))))
abbrev s_are_parts : Stmt := (top 69)
abbrev N_are_parts : List Str := ["world", "form", "items", "part", "item"]
abbrev P_are_parts : List Str := ["world", "form", "items"]
theorem sc_are_parts : FnScope N_are_parts P_are_parts (defScope s_are_parts) := ⟨rfl, rfl, rfl, by decide +kernel, rfl, by decide +kernel, by decide +kernel⟩
def L_are_parts : List Dat → M Dat := runD N_are_parts.length (sSeq (sIf (bTest (xOp dNe (xCB dLen (xCons (xVar 2) xNil)) (xCB dLen (xCons (xVar 1) xNil)))) (sRet (xC (.bl false))) sNx)
    (sRet (xCB dAll (xCons (xLc (iZipM (xCons (xVar 1) (xCons (xVar 2) xNil))) (gT 2 (gCo (gN 3) (gCo (gN 4) gNl))) bYes (xCall L__is_part (xCons (xVar 0) (xCons (xVar 3) (xCons (xVar 4) xNil)))) [3, 4]) xNil))))
abbrev s_is_step : Stmt := (top 67)
abbrev N_is_step : List Str := ["world", "value", "form"]
abbrev P_is_step : List Str := ["world", "value"]
theorem sc_is_step : FnScope N_is_step P_is_step (defScope s_is_step) := ⟨rfl, rfl, rfl, by decide +kernel, rfl, by decide +kernel, by decide +kernel⟩
def L_is_step : List Dat → M Dat := runD N_is_step.length (sSeq (sAsg (xCall L_step_form (xCons (xVar 1) xNil)) (gN 2))
    (sRet (xAnd (xOp dNotN (xVar 2) (xC .non)) (xCall L_are_parts (xCons (xVar 0) (xCons (xVar 2) (xCons (jSl dCutT (xVar 1) (oSome (xC (.int 1))) oNone) xNil)))))))
abbrev s_moments : Stmt := (top 68)
abbrev N_moments : List Str := ["world", "span", "plan", "setup", "found", "index", "step"]
abbrev P_moments : List Str := ["world", "span", "plan"]
theorem sc_moments : FnScope N_moments P_moments (defScope s_moments) := ⟨rfl, rfl, rfl, by decide +kernel, rfl, by decide +kernel, by decide +kernel⟩
def L_moments : List Dat → M Dat := runD N_moments.length (sSeq (sIf (bNot (bTest (xCall L_is_fit (xCons (xVar 0) (xCons (xVar 1) xNil))))) sNo sNx)
    (sSeq (sIf (bNot (bTest (xCall L_is_tuple_of (xCons (xVar 2) (xCons (xC (.int 0)) (xCons (xC (.int 14)) xNil)))))) sNo sNx)
    (sSeq (sAsg (xCall (callF (mkNew "Setup" L_Setup___init__)) (xCons (xVar 0) (xCons (xVar 1) xNil))) (gN 3))
    (sSeq (sAsg (xNewLo (xLst (xCons (xMeth "Setup" "what_holds" L_Setup_what_holds (xVar 3) xNil) xNil))) (gN 4))
    (sSeq (sFor (iEnM (xCons (xVar 2) xNil)) (gT 2 (gCo (gN 5) (gCo (gN 6) gNl))) (sSeq (sAsg (xIf (bTest (xCall L_is_step (xCons (xVar 0) (xCons (xVar 6) xNil)))) (xMeth "Setup" "behind_begin" (callF L_Setup_behind_begin) (xVar 3) (xCons (xVar 6) xNil)) (xC .non)) (gN 3))
    (sSeq (sIf (bTest (xOp dIsN (xVar 3) (xC .non))) sNo sNx)
    (sSeq (sAppLo (xVar 4) (xCons (xMeth "Setup" "what_holds" L_Setup_what_holds (xVar 3) xNil) xNil))
    (sIf (bTru (xUn (dFldI "Setup" "going") (xVar 3))) (sSeq (sAsg (xMeth "Setup" "behind_end" (callF L_Setup_behind_end) (xVar 3) xNil) (gN 3))
    (sAppLo (xVar 4) (xCons (xMeth "Setup" "what_holds" L_Setup_what_holds (xVar 3) xNil) xNil))) sNx)))))
    (sRet (xCB dTupleLo (xCons (xVar 4) xNil))))))))
def L_momentsX : List Dat → M Dat := runD N_moments.length (sSeq (sIf (bNot (bTest (xCall L_is_fit (xCons (xVar 0) (xCons (xVar 1) xNil))))) (sRaise "BadSpan" "value" (xCons (xVar 1) xNil)) sNx)
    (sSeq (sIf (bNot (bTest (xCall L_is_tuple_of (xCons (xVar 2) (xCons (xC (.int 0)) (xCons (xC (.int 14)) xNil)))))) (sRaise "BadPlan" "index" (xCons (xC .non) xNil)) sNx)
    (sSeq (sAsg (xCall (callF (mkNew "Setup" L_Setup___init__)) (xCons (xVar 0) (xCons (xVar 1) xNil))) (gN 3))
    (sSeq (sAsg (xNewLo (xLst (xCons (xMeth "Setup" "what_holds" L_Setup_what_holds (xVar 3) xNil) xNil))) (gN 4))
    (sSeq (sFor (iEnM (xCons (xVar 2) xNil)) (gT 2 (gCo (gN 5) (gCo (gN 6) gNl))) (sSeq (sAsg (xIf (bTest (xCall L_is_step (xCons (xVar 0) (xCons (xVar 6) xNil)))) (xMeth "Setup" "behind_begin" (callF L_Setup_behind_begin) (xVar 3) (xCons (xVar 6) xNil)) (xC .non)) (gN 3))
    (sSeq (sIf (bTest (xOp dIsN (xVar 3) (xC .non))) (sRaise "BadPlan" "index" (xCons (xVar 5) xNil)) sNx)
    (sSeq (sAppLo (xVar 4) (xCons (xMeth "Setup" "what_holds" L_Setup_what_holds (xVar 3) xNil) xNil))
    (sIf (bTru (xUn (dFldI "Setup" "going") (xVar 3))) (sSeq (sAsg (xMeth "Setup" "behind_end" (callF L_Setup_behind_end) (xVar 3) xNil) (gN 3))
    (sAppLo (xVar 4) (xCons (xMeth "Setup" "what_holds" L_Setup_what_holds (xVar 3) xNil) xNil))) sNx)))))
    (sRet (xCB dTupleLo (xCons (xVar 4) xNil))))))))
abbrev s__law_pot_of : Stmt := (top 96)
abbrev N__law_pot_of : List Str := ["_law_script", "_law_k", "_law_cell", "_law_own"]
abbrev P__law_pot_of : List Str := ["_law_script", "_law_k"]
theorem sc__law_pot_of : FnScope N__law_pot_of P__law_pot_of (defScope s__law_pot_of) := ⟨rfl, rfl, rfl, by decide +kernel, rfl, by decide +kernel, by decide +kernel⟩
def L__law_pot_of : List Dat → M Dat := runD N__law_pot_of.length (sSeq (sAsg (xIf (bTest (xOp dLt (xVar 1) (xCB dLen (xCons (xVar 0) xNil)))) (xOp dIxSc (xVar 0) (xVar 1)) (xOp dAdd (xOp dMul (xC (.int 53)) (xVar 1)) (xC (.int 29)))) (gN 2))
    (sSeq (sAsg (xOp dMul (xOp dMod (xCB dInt (xCons (xCB dAbs (xCons (xVar 2) xNil)) xNil)) (xOp dPowZ (xOp dPow (xC (.int 10)) (xC (.int 60))) (xC (.int 5)))) (xCB dInt (xCons (xOp dGe (xCB dAbs (xCons (xVar 2) xNil)) (xOp dPow (xC (.int 10)) (xC (.int 18)))) xNil))) (gN 3))
    (sRetLo (xLst (xCons (xVar 3) (xCons (xOp dMod (xOp dAdd (xOp dAdd (xOp dMul (xOp dMod (xCB dInt (xCons (xVar 2) xNil)) (xC (.int 2305843009213693951))) (xC (.int 74093))) (xOp dMul (xOp dMul (xC (.int 7013)) (xVar 1)) (xVar 1))) (xC (.int 41))) (xC (.int 2305843009213693921))) (xCons (xC (.int 0)) xNil)))))))
abbrev s__law_take : Stmt := (top 97)
abbrev N__law_take : List Str := ["_law_pot", "_law_upto", "_law_digit", "_law_prime", "_law_mixed"]
abbrev P__law_take : List Str := ["_law_pot", "_law_upto"]
theorem sc__law_take : FnScope N__law_take P__law_take (defScope s__law_take) := ⟨rfl, rfl, rfl, by decide +kernel, rfl, by decide +kernel, by decide +kernel⟩
def L__law_take : List Dat → M Dat := runD N__law_take.length (sSeq (sIf (bTest (xOp dGt (xOp dIxLo (xVar 0) (xC (.int 0))) (xC (.int 0)))) (sSeq (sAsg (xOp dMod (xCB dInt (xCons (xOp dIxLo (xVar 0) (xC (.int 0))) xNil)) (xVar 1)) (gN 2))
    (sSeq (sSetLo 0 (xC (.int 0)) (xOp dDiv (xOp dIxLo (xVar 0) (xC (.int 0))) (xVar 1)))
    (sRet (xVar 2)))) sNx)
    (sSeq (sSetLo 0 (xC (.int 2)) (xOp dAdd (xOp dIxLo (xVar 0) (xC (.int 2))) (xC (.int 1))))
    (sSeq (sAsg (xOp dIxL (xLst (xCons (xC (.int 2147483647)) (xCons (xC (.int 2147483629)) (xCons (xC (.int 2147483587)) (xCons (xC (.int 2147483579)) (xCons (xC (.int 2147483563)) xNil)))))) (xOp dMod (xCB dInt (xCons (xOp dIxLo (xVar 0) (xC (.int 2))) xNil)) (xC (.int 5)))) (gN 3))
    (sSeq (sAsg (xOp dMod (xOp dPow (xCB dInt (xCons (xOp dAdd (xOp dAdd (xOp dIxLo (xVar 0) (xC (.int 1))) (xOp dMul (xOp dMul (xC (.int 60089)) (xOp dIxLo (xVar 0) (xC (.int 2)))) (xOp dIxLo (xVar 0) (xC (.int 2))))) (xC (.int 61))) xNil)) (xC (.int 3))) (xVar 3)) (gN 4))
    (sRet (xOp dMod (xOp dDiv (xOp dMod (xCB dInt (xCons (xOp dMul (xVar 4) (xOp dAdd (xOp dMod (xCB dInt (xCons (xVar 4) xNil)) (xC (.int 10061))) (xOp dMul (xC (.int 97)) (xOp dIxLo (xVar 0) (xC (.int 2)))))) xNil)) (xC (.int 2305843009213693951))) (xC (.int 103))) (xVar 1)))))))
abbrev s__law_of : Stmt := (top 98)
abbrev N__law_of : List Str := ["_law_pot", "_law_some"]
abbrev P__law_of : List Str := ["_law_pot", "_law_some"]
theorem sc__law_of : FnScope N__law_of P__law_of (defScope s__law_of) := ⟨rfl, rfl, rfl, by decide +kernel, rfl, by decide +kernel, by decide +kernel⟩
def L__law_of : List Dat → M Dat := runD N__law_of.length (sRet (xOp dIxL (xVar 1) (xCall L__law_take (xCons (xVar 0) (xCons (xCB dLen (xCons (xVar 1) xNil)) xNil)))))
abbrev s__law_hand_world : Stmt := (top 99)
abbrev N__law_hand_world : List Str := ["_law_names_here", "_law_one", "_law_other", "_law_first", "_law_second", "_law_sides"]
abbrev P__law_hand_world : List Str := ["_law_names_here"]
theorem sc__law_hand_world : FnScope N__law_hand_world P__law_hand_world (defScope s__law_hand_world) := ⟨rfl, rfl, rfl, by decide +kernel, rfl, by decide +kernel, by decide +kernel⟩
def L__law_hand_world : List Dat → M Dat := runD N__law_hand_world.length (sSeq (sAsg (xVar 0) (gT 4 (gCo (gN 1) (gCo (gN 2) (gCo (gN 3) (gCo (gN 4) gNl))))))
    (sSeq (sAsg (xTup (xCons (xTup (xCons (xC (.str "narrow")) (xCons (xTup xNil) (xCons (xTup xNil) xNil)))) (xCons (xTup (xCons (xC (.str "narrow")) (xCons (xTup xNil) (xCons (xTup xNil) xNil)))) (xCons (xTup (xCons (xC (.str "wide")) (xCons (xTup xNil) (xCons (xTup xNil) xNil)))) xNil)))) (gN 5))
    (sRet (xCall (callF (mkNew "World" L_World___init__)) (xCons (xCall (callF (mkNew "Kind" L_Kind___init__)) (xCons (xC (.int 0)) (xCons (xC (.int 255)) xNil))) (xCons (xCall (callF (mkNew "Kind" L_Kind___init__)) (xCons (xC (.int 0)) (xCons (xC (.int 65535)) xNil))) (xCons (xTup (xCons (xVar 1) (xCons (xVar 2) xNil))) (xCons (xTup (xCons (xTup (xCons (xVar 3) (xCons (xVar 5) xNil))) (xCons (xTup (xCons (xVar 4) (xCons (jSl dCutT (xVar 5) oNone (oSome (xC (.int 1)))) xNil))) xNil))) xNil))))))))
abbrev s__law_names : Stmt := (top 100)
abbrev N__law_names : List Str := ["_law_pot", "_law_columns"]
abbrev P__law_names : List Str := ["_law_pot"]
theorem sc__law_names : FnScope N__law_names P__law_names (defScope s__law_names) := ⟨rfl, rfl, rfl, by decide +kernel, rfl, by decide +kernel, by decide +kernel⟩
def L__law_names : List Dat → M Dat := runD N__law_names.length (sSeq (sAsg (xCall L__law_of (xCons (xVar 0) (xCons (xLst (xCons (xTup (xCons (xC (.str "a")) (xCons (xC (.str "b")) xNil))) (xCons (xTup (xCons (xC (.str "id")) (xCons (xC (.str "ref")) xNil))) (xCons (xTup (xCons (xC (.str "no")) (xCons (xC (.str "up")) xNil))) (xCons (xTup (xCons (xC (.str "abcdefgh")) (xCons (xC (.str "b")) xNil))) xNil))))) xNil))) (gN 1))
    (sRet (xOp dCatT (xVar 1) (xCall L__law_of (xCons (xVar 0) (xCons (xLst (xCons (xTup (xCons (xC (.str "a")) (xCons (xC (.str "b")) xNil))) (xCons (xTup (xCons (xC (.str "shop")) (xCons (xC (.str "till")) xNil))) (xCons (xTup (xCons (xC (.str "add")) (xCons (xC (.str "up")) xNil))) (xCons (xTup (xCons (xC (.str "wide")) (xCons (xC (.str "z")) xNil))) xNil))))) xNil))))))
abbrev s__law_refused : Stmt := (top 101)
abbrev N__law_refused : List Str := ["_law_lore", "_law_ends", "_law_row", "error"]
abbrev P__law_refused : List Str := ["_law_lore", "_law_ends", "_law_row"]
theorem sc__law_refused : FnScope N__law_refused P__law_refused (defScope s__law_refused) := ⟨rfl, rfl, rfl, by decide +kernel, rfl, by decide +kernel, by decide +kernel⟩
/-- what the law hears of a plan that is refused -/
def refH (o : Out Dat) : Out Dat := match o with
  | .ok _ S => .ok (.int (-1)) S
  | .er c fs S => match fs with
    | [.obj _ ns [x]] => match decide (c = "BadPlan") && decide (ns = [("index" : Str)]) with
      | true => .ok x S
      | false => .bad
    | _ => .bad
  | .bad => .bad
def L__law_refused (ds : List Dat) : M Dat := fun S => match ds with
  | [_, _, _] => refH (callF L_momentsX ds S)
  | _ => .bad
abbrev s__law_releases_right : Stmt := (top 102)
abbrev N__law_releases_right : List Str := ["_law_names_here", "_law_lore", "_law_one", "_law_other", "_law_first", "_law_second", "_law_rest", "_law_release", "_law_withdraw", "_law_narrow", "_law_due", "_law_later", "_law_found", "_law_running"]
abbrev P__law_releases_right : List Str := ["_law_names_here", "_law_lore"]
theorem sc__law_releases_right : FnScope N__law_releases_right P__law_releases_right (defScope s__law_releases_right) := ⟨rfl, rfl, rfl, by decide +kernel, rfl, by decide +kernel, by decide +kernel⟩
def L__law_releases_right : List Dat → M Dat := runD N__law_releases_right.length (sSeq (sAsg (xVar 0) (gT 4 (gCo (gN 2) (gCo (gN 3) (gCo (gN 4) (gCo (gN 5) gNl))))))
    (sSeq (sAsg (xTup (xCons (xTup xNil) (xCons (xTup (xCons (xC (.int 1)) (xCons (xC (.int 200)) xNil))) xNil))) (gN 6))
    (sSeq (sPar 7 8 (xCons (xTup (xCons (xC (.str "release")) (xCons (xVar 4) xNil))) (xCons (xTup (xCons (xC (.str "withdraw")) (xCons (xVar 4) xNil))) xNil)))
    (sSeq (sAsg (xTup (xCons (xC (.str "narrow")) (xCons (xC (.str "narrow")) xNil))) (gN 9))
    (sSeq (sAsg (xLst (xCons (xTup (xCons (xTup (xCons (xVar 4) (xCons (xC (.int 0)) xNil))) (xCons (xTup (xCons (xVar 5) (xCons (xC (.int 0)) xNil))) xNil))) (xCons (xTup (xCons (xTup (xCons (xVar 4) (xCons (xC (.int 0)) xNil))) (xCons (xTup (xCons (xVar 4) (xCons (xC (.int 1)) xNil))) (xCons (xTup (xCons (xVar 5) (xCons (xC (.int 0)) xNil))) xNil)))) (xCons (xTup (xCons (xTup (xCons (xVar 4) (xCons (xC (.int 1)) xNil))) (xCons (xTup (xCons (xVar 5) (xCons (xC (.int 0)) xNil))) xNil))) xNil)))) (gN 10))
    (sSeq (sAsg (xTup (xCons (xTup (xCons (xVar 4) (xCons (xC (.int 1)) xNil))) (xCons (xTup (xCons (xVar 4) (xCons (xC (.int 2)) xNil))) (xCons (xTup (xCons (xVar 5) (xCons (xC (.int 0)) xNil))) xNil)))) (gN 11))
    (sSeq (sAsg (xOp dCatL (xVar 10) (xLst (xCons (xVar 11) (xCons (xTup (xCons (xTup (xCons (xVar 4) (xCons (xC (.int 2)) xNil))) (xCons (xTup (xCons (xVar 5) (xCons (xC (.int 0)) xNil))) xNil))) (xCons (xVar 11) xNil))))) (gN 10))
    (sSeq (sAsg (xCall (callF L_moments) (xCons (xVar 1) (xCons (xTup (xCons (xC (.int 1)) (xCons (xC (.int 200)) xNil))) (xCons (xTup (xCons (xVar 7) (xCons (xVar 7) (xCons (xVar 8) xNil)))) xNil)))) (gN 12))
    (sSeq (sIf (bTest (xOp (dEqD true) (xVar 12) (xCB dTuple (xCons (xLc (iLst (xOp dCatL (xVar 10) (xLst (xCons (xOp dIxL (xVar 10) (xC (.int 2))) xNil)))) (gN 13) bYes (xOp dCatT (xTup (xCons (xVar 13) (xCons (xVar 9) (xCons (xTup xNil) xNil)))) (xVar 6)) [13]) xNil)))) (sRet (xC (.bl false))) sNx)
    (sSeq (sIf (bOr (bTest (xOp dNe (xCall L__law_refused (xCons (xVar 1) (xCons (xTup (xCons (xC (.int 1)) (xCons (xC (.int 200)) xNil))) (xCons (xOp dRepT (xTup (xCons (xVar 7) xNil)) (xC (.int 3))) xNil)))) (xC (.int 2)))) (bTest (xOp dNe (xCall L__law_refused (xCons (xVar 1) (xCons (xTup (xCons (xC (.int 1)) (xCons (xC (.int 200)) xNil))) (xCons (xTup (xCons (xVar 8) xNil)) xNil)))) (xC (.int 0))))) (sRet (xC (.bl false))) sNx)
    (sRet (xOp dEq (xCall L__law_refused (xCons (xVar 1) (xCons (xTup (xCons (xC (.int 1)) (xCons (xC (.int 200)) xNil))) (xCons (xTup (xCons (xVar 7) (xCons (xTup (xCons (xC (.str "release")) (xCons (xVar 5) xNil))) xNil))) xNil)))) (xC (.int 1))))))))))))))
abbrev s__law_sides_right : Stmt := (top 103)
abbrev N__law_sides_right : List Str := ["_law_names_here", "_law_lore", "_law_one", "_law_other", "_law_first", "_law_second", "_law_running", "_law_row", "_law_found", "_law_mirrors", "_law_fill", "_law_amid", "_law_some", "_law_step"]
abbrev P__law_sides_right : List Str := ["_law_names_here", "_law_lore"]
theorem sc__law_sides_right : FnScope N__law_sides_right P__law_sides_right (defScope s__law_sides_right) := ⟨rfl, rfl, rfl, by decide +kernel, rfl, by decide +kernel, by decide +kernel⟩
def L__law_sides_right : List Dat → M Dat := runD N__law_sides_right.length (sSeq (sAsg (xVar 0) (gT 4 (gCo (gN 2) (gCo (gN 3) (gCo (gN 4) (gCo (gN 5) gNl))))))
    (sSeq (sAsg (xTup (xCons (xTup (xCons (xVar 4) (xCons (xC (.int 0)) xNil))) (xCons (xTup (xCons (xVar 5) (xCons (xC (.int 0)) xNil))) xNil))) (gN 6))
    (sSeq (sAsg (xTup (xCons (xTup (xCons (xC (.str "add")) (xCons (xVar 3) xNil))) (xCons (xTup (xCons (xC (.str "up")) (xCons (xVar 3) xNil))) (xCons (xTup (xCons (xC (.str "down")) (xCons (xVar 3) (xCons (xC (.str "cut")) xNil)))) (xCons (xTup (xCons (xC (.str "add")) (xCons (xVar 2) xNil))) (xCons (xTup (xCons (xC (.str "down")) (xCons (xVar 2) (xCons (xC (.str "refuse")) xNil)))) xNil)))))) (gN 7))
    (sSeq (sAsg (xCall (callF L_moments) (xCons (xVar 1) (xCons (xTup (xCons (xC (.int 1)) (xCons (xC (.int 200)) xNil))) (xCons (xVar 7) xNil)))) (gN 8))
    (sSeq (sAsg (xTup (xCons (xTup (xCons (xVar 2) (xCons (xC (.str "down")) (xCons (xC (.str "refuse")) xNil)))) (xCons (xTup (xCons (xVar 3) (xCons (xC (.str "down")) (xCons (xC (.str "cut")) xNil)))) (xCons (xTup (xCons (xVar 3) (xCons (xC (.str "up")) (xCons (xC (.str "")) xNil)))) xNil)))) (gN 9))
    (sSeq (sIf (bOr (bTest (xOp (dEqD true) (xOp dIxT (xVar 8) (xUn dNeg (xC (.int 1)))) (xTup (xCons (xVar 6) (xCons (xTup (xCons (xC (.str "both")) (xCons (xC (.str "both")) xNil))) (xCons (xVar 9) (xCons (xTup xNil) (xCons (xTup (xCons (xC (.int 1)) (xCons (xC (.int 200)) xNil))) xNil)))))))) (bTest (xOp dNe (xCB dLen (xCons (xVar 8) xNil)) (xC (.int 6))))) (sRet (xC (.bl false))) sNx)
    (sSeq (sAsg (xTup (xCons (xC (.str "fill back")) (xCons (xVar 3) (xCons (xC (.str "anew")) (xCons (xC (.str "empty")) xNil))))) (gN 10))
    (sSeq (sAsg (xOp dCatT (jSl dCutT (xOp dIxT (xVar 8) (xUn dNeg (xC (.int 1)))) oNone (oSome (xC (.int 3)))) (xTup (xCons (xVar 10) (xCons (xTup (xCons (xC (.int 1)) (xCons (xC (.int 200)) xNil))) xNil)))) (gN 11))
    (sSeq (sIf (bTest (xOp (dEqD true) (jSl dCutT (xCallK 1 [0, 1, 2] 3 (callF L_moments) (xCons (xVar 1) xNil) (xCons (xTup (xCons (xC (.int 1)) (xCons (xC (.int 200)) xNil))) (xCons (xOp dCatT (xVar 7) (xTup (xCons (xVar 10) xNil))) xNil))) (oSome (xUn dNeg (xC (.int 2)))) oNone) (xTup (xCons (xVar 11) (xCons (xOp dIxT (xVar 8) (xUn dNeg (xC (.int 1)))) xNil))))) (sRet (xC (.bl false))) sNx)
    (sSeq (sAsg (xLst (xCons (xTup (xCons (xC (.str "drop")) (xCons (xVar 3) (xCons (xC (.str "narrow")) xNil)))) (xCons (xTup (xCons (xC (.str "add")) (xCons (xVar 3) xNil))) (xCons (xTup (xCons (xC (.str "up")) (xCons (xVar 3) xNil))) (xCons (xTup (xCons (xC (.str "down")) (xCons (xVar 3) (xCons (xC (.str "cut")) xNil)))) (xCons (xTup (xCons (xC (.str "no up")) (xCons (xVar 2) xNil))) xNil)))))) (gN 12))
    (sSeq (sIf (bTest (xOp (dEqD true) (xLc (iLst (xVar 12)) (gN 13) bYes (xCall L__law_refused (xCons (xVar 1) (xCons (xTup (xCons (xC (.int 1)) (xCons (xC (.int 200)) xNil))) (xCons (xOp dCatT (xVar 7) (xTup (xCons (xVar 13) xNil))) xNil)))) [13]) (xOp dRepL (xLst (xCons (xC (.int 5)) xNil)) (xC (.int 5))))) (sRet (xC (.bl false))) sNx)
    (sSeq (sAsg (xOp dCatT (xVar 7) (xTup (xCons (xTup (xCons (xC (.str "no up")) (xCons (xVar 3) xNil))) (xCons (xTup (xCons (xC (.str "no down")) (xCons (xVar 3) xNil))) (xCons (xTup (xCons (xC (.str "drop")) (xCons (xVar 3) (xCons (xC (.str "narrow")) xNil)))) xNil))))) (gN 7))
    (sSeq (sIf (bTest (xOp (dEqD true) (xOp dIxT (xCall (callF L_moments) (xCons (xVar 1) (xCons (xTup (xCons (xC (.int 1)) (xCons (xC (.int 200)) xNil))) (xCons (xVar 7) xNil)))) (xUn dNeg (xC (.int 1)))) (xTup (xCons (xVar 6) (xCons (xTup (xCons (xC (.str "both")) (xCons (xC (.str "wide")) xNil))) (xCons (jSl dCutT (xVar 9) oNone (oSome (xC (.int 1)))) (xCons (xTup xNil) (xCons (xTup (xCons (xC (.int 1)) (xCons (xC (.int 200)) xNil))) xNil)))))))) (sRet (xC (.bl false))) sNx)
    (sSeq (sAsg (xLst (xCons (xTup (xCons (xC (.str "add")) (xCons (xVar 3) xNil))) (xCons (xTup (xCons (xC (.str "fill")) (xCons (xVar 3) (xCons (xC (.str "anew")) xNil)))) (xCons (xTup (xCons (xC (.str "drop")) (xCons (xVar 3) (xCons (xC (.str "wide")) xNil)))) (xCons (xTup (xCons (xC (.str "up")) (xCons (xVar 3) xNil))) xNil))))) (gN 12))
    (sRet (xOp (dEqD false) (xLc (iLst (xVar 12)) (gN 13) bYes (xCall L__law_refused (xCons (xVar 1) (xCons (xTup (xCons (xC (.int 1)) (xCons (xC (.int 200)) xNil))) (xCons (xOp dCatT (xVar 7) (xTup (xCons (xVar 13) xNil))) xNil)))) [13]) (xOp dRepL (xLst (xCons (xC (.int 8)) xNil)) (xC (.int 4)))))))))))))))))))
abbrev s__law_numbers_right : Stmt := (top 104)
abbrev N__law_numbers_right : List Str := ["_law_names_here", "_law_lore", "_law_row", "_law_spans", "_law_some", "_law_step", "_law_moment", "_law_n"]
abbrev P__law_numbers_right : List Str := ["_law_names_here", "_law_lore"]
theorem sc__law_numbers_right : FnScope N__law_numbers_right P__law_numbers_right (defScope s__law_numbers_right) := ⟨rfl, rfl, rfl, by decide +kernel, rfl, by decide +kernel, by decide +kernel⟩
def L__law_numbers_right : List Dat → M Dat := runD N__law_numbers_right.length (sSeq (sAsg (xTup (xCons (xTup (xCons (xC (.str "grow")) (xCons (xC (.int 271)) xNil))) (xCons (xTup (xCons (xC (.str "grow")) (xCons (xC (.int 400)) xNil))) (xCons (xTup (xCons (xC (.str "purge")) (xCons (xC (.int 240)) xNil))) (xCons (xTup (xCons (xC (.str "purge")) (xCons (xC (.int 256)) xNil))) xNil))))) (gN 2))
    (sSeq (sAsg (xLc (iTp (xCallK 0 [2, 1, 0] 3 (callF L_moments) xNil (xCons (xVar 2) (xCons (xTup (xCons (xC (.int 1)) (xCons (xC (.int 200)) xNil))) (xCons (xVar 1) xNil))))) (gN 6) bYes (xOp dIxT (xVar 6) (xC (.int 4))) [6]) (gN 3))
    (sSeq (sIf (bTest (xOp (dEqD true) (xVar 3) (xLst (xCons (xTup (xCons (xC (.int 1)) (xCons (xC (.int 200)) xNil))) (xCons (xTup (xCons (xC (.int 1)) (xCons (xC (.int 271)) xNil))) (xCons (xTup (xCons (xC (.int 1)) (xCons (xC (.int 400)) xNil))) (xCons (xTup (xCons (xC (.int 240)) (xCons (xC (.int 400)) xNil))) (xCons (xTup (xCons (xC (.int 256)) (xCons (xC (.int 400)) xNil))) xNil)))))))) (sRet (xC (.bl false))) sNx)
    (sSeq (sIf (bTest (xOp (dEqD true) (xLc (iTp (xTup (xCons (xC (.int 270)) (xCons (xC (.int 271)) (xCons (xC (.int 200)) (xCons (xC (.int 65536)) (xCons (xC (.int 65535)) xNil))))))) (gN 7) bYes (xCall L__law_refused (xCons (xVar 1) (xCons (xTup (xCons (xC (.int 1)) (xCons (xC (.int 200)) xNil))) (xCons (xTup (xCons (xTup (xCons (xC (.str "grow")) (xCons (xVar 7) xNil))) xNil)) xNil)))) [7]) (xLst (xCons (xC (.int 0)) (xCons (xUn dNeg (xC (.int 1))) (xCons (xC (.int 0)) (xCons (xC (.int 0)) (xCons (xUn dNeg (xC (.int 1))) xNil)))))))) (sRet (xC (.bl false))) sNx)
    (sSeq (sAsg (xLc (iTp (xTup (xCons (xC (.int 185)) (xCons (xC (.int 186)) (xCons (xC (.int 201)) (xCons (xC (.int 240)) (xCons (xC (.int 241)) (xCons (xC (.int 256)) (xCons (xC (.int 257)) (xCons (xC (.int 400)) xNil)))))))))) (gN 7) bYes (xCall L__law_refused (xCons (xVar 1) (xCons (xTup (xCons (xC (.int 1)) (xCons (xC (.int 200)) xNil))) (xCons (xOp dCatT (jSl dCutT (xVar 2) oNone (oSome (xC (.int 2)))) (xTup (xCons (xTup (xCons (xC (.str "purge")) (xCons (xVar 7) xNil))) xNil))) xNil)))) [7]) (gN 4))
    (sSeq (sIf (bTest (xOp (dEqD true) (xVar 4) (xLst (xCons (xUn dNeg (xC (.int 1))) (xCons (xC (.int 2)) (xCons (xUn dNeg (xC (.int 1))) (xCons (xUn dNeg (xC (.int 1))) (xCons (xC (.int 2)) (xCons (xUn dNeg (xC (.int 1))) (xCons (xC (.int 2)) (xCons (xC (.int 2)) xNil))))))))))) (sRet (xC (.bl false))) sNx)
    (sSeq (sAsg (xTup (xCons (xC (.str "down")) (xCons (xOp dIxT (xVar 0) (xC (.int 0))) (xCons (xC (.str "cut")) xNil)))) (gN 5))
    (sRet (xAnd (xOp (dIsB false) (xCallK 0 [1, 0] 2 L_is_step xNil (xCons (xVar 5) (xCons (xVar 1) xNil))) (xC (.bl true))) (xOp (dIsB false) (xCall L_is_step (xCons (xVar 1) (xCons (xCB dList (xCons (xVar 5) xNil)) xNil))) (xC (.bl false))))))))))))
abbrev s_law : Stmt := (top 105)
abbrev N_law : List Str := ["_law_script", "_law_k", "_law_names_here", "_law_lore"]
abbrev P_law : List Str := ["_law_script"]
theorem sc_law : FnScope N_law P_law (defScope s_law) := ⟨rfl, rfl, rfl, by decide +kernel, rfl, by decide +kernel, by decide +kernel⟩
def L_law : List Dat → M Dat := runD N_law.length (sSeq (sFor (iRg1 (xCons (xCB dMax (xCons (xC (.int 1)) (xCons (xCB dMin (xCons (xC (.int 3)) (xCons (xCB dLen (xCons (xVar 0) xNil)) xNil))) xNil))) xNil)) (gN 1) (sSeq (sAsg (xCall L__law_names (xCons (xCall L__law_pot_of (xCons (xVar 0) (xCons (xVar 1) xNil))) xNil)) (gN 2))
    (sSeq (sAsg (xCall (callF L__law_hand_world) (xCons (xVar 2) xNil)) (gN 3))
    (sSeq (sIf (bOr (bNot (bTest (xCall (callF L__law_releases_right) (xCons (xVar 2) (xCons (xVar 3) xNil))))) (bNot (bTest (xCall (callF L__law_sides_right) (xCons (xVar 2) (xCons (xVar 3) xNil)))))) (sRet (xC (.bl false))) sNx)
    (sIf (bNot (bTest (xCall (callF L__law_numbers_right) (xCons (xVar 2) (xCons (xVar 3) xNil))))) (sRet (xC (.bl false))) sNx)))))
    (sRet (xC (.bl true))))
end Zd

namespace Zd
open PySem PySem.Spec PyProof.Rows L2 Zg
section
variable {P : Program} {w : World} {K : PySem.W.Frag} {mg : Str → Option Value} {base : Heap} {κ : String → Addr} {n_MOST_LETTERS n_MOST_STEPS n_LEAST_NUMBERS n_LEAST_NARROW n_MOST_PACE n_MOST_IN_TWO_EVENTS : Tok} {a_SIDES a_RULES a_MANNERS a_FILLS a_DEEDS a_READ_SIDES a_HOWS a_IN_TWO_EVENTS a_STEP_FORMS a_POSSIBLE a_CHANGES : Addr}
theorem ok_is_integer {f : Addr} {fd : FuncData} (F : Fun K "is_integer" "is_integer" s_is_integer f fd) (T : TxD2 mg) : FnOk P w K mg base CX0 1 f fd P_is_integer (spD ⟨K, κ⟩ 1 L_is_integer) := by
  exact F.ok sc_is_integer (fun vs H Q E h => h.1) (fun cdv A outer s H vs Q E hr h => ⟨_, (pss_one (ps_ret (pe_and (pe_callB call_isi (by rfl) T.n_isinstance (by decide +kernel) (pa_cons (pv 0) (pa_cons (pe_bltn (v := .ty "int") (by rfl) T.n_int (by decide +kernel) rfl) pa_nil))) (pe_one (pe_not (pe_callB call_isi (by rfl) T.n_isinstance (by decide +kernel) (pa_cons (pv 0) (pa_cons (pe_bltn (v := .ty "bool") (by rfl) T.n_bool (by decide +kernel) rfl) pa_nil)))))))), ok_body (Z := ⟨K, κ⟩) (O := []) (js_ret (JD.w (j_andV (j_cb c_isi (ja_consW (JD.w (j_var nin)) (ja_cons j_ty ja_nil))) (j_notV (j_cb c_isi (ja_consW (JD.w (j_var nin)) (ja_cons j_ty ja_nil))))))) (fun _ m => absurd m List.not_mem_nil) h⟩)
theorem ok_is_between {f : Addr} {fd : FuncData} (F : Fun K "is_between" "is_between" s_is_between f fd) (T : TxD2 mg) (cL_is_integer : Cal P w K mg base 1 "is_integer" P_is_integer (spD ⟨K, κ⟩ 1 L_is_integer)) : FnOk P w K mg base CX0 2 f fd P_is_between (spD ⟨K, κ⟩ 3 L_is_between) := by
  obtain ⟨f_is_integer, fd_is_integer, G_is_integer, b_is_integer, g_is_integer, k_is_integer⟩ := cL_is_integer
  exact F.ok sc_is_between (fun vs H Q E h => h.1) (fun cdv A outer s H vs Q E hr h => ⟨_, (pss_one (ps_ret (pe_and (pe_call G_is_integer (hr.mono (by decide)) rfl g_is_integer k_is_integer b_is_integer .nil pass0 (pa_cons (pv 0) pa_nil)) (pe_one (pe_chain op_le op_le (pv 1) (pv 0) (pv 2)))))), ok_body (Z := ⟨K, κ⟩) (O := []) (js_ret (JD.w (j_andV (j_callV via_id (ja_cons (j_var nin) ja_nil) (len_cons (fun _ _ _ _ h => len_nil h))) (j_chain r_le r_le (j_var nin) (j_var nin) (j_var nin))))) (fun _ m => absurd m List.not_mem_nil) h⟩)
theorem ok_lesser {f : Addr} {fd : FuncData} (F : Fun K "lesser" "lesser" s_lesser f fd) (T : TxD2 mg) : FnOk P w K mg base CX0 1 f fd P_lesser (spD ⟨K, κ⟩ 2 L_lesser) := by
  exact F.ok sc_lesser (fun vs H Q E h => h.1) (fun cdv A outer s H vs Q E hr h => ⟨_, (pss_one (ps_ret (pe_ifExp (pt_cmpR op_le (pv 0) (pv 1) (nomark _)) (pv 0) (pv 1)))), ok_body (Z := ⟨K, κ⟩) (O := []) (js_ret (JD.w (j_if (jb_test (j_op upD r_le (j_var nin) (j_var nin))) (j_var nin) (j_var nin)))) (fun _ m => absurd m List.not_mem_nil) h⟩)
theorem ok_greater {f : Addr} {fd : FuncData} (F : Fun K "greater" "greater" s_greater f fd) (T : TxD2 mg) : FnOk P w K mg base CX0 1 f fd P_greater (spD ⟨K, κ⟩ 2 L_greater) := by
  exact F.ok sc_greater (fun vs H Q E h => h.1) (fun cdv A outer s H vs Q E hr h => ⟨_, (pss_one (ps_ret (pe_ifExp (pt_cmpR op_ge (pv 0) (pv 1) (nomark _)) (pv 0) (pv 1)))), ok_body (Z := ⟨K, κ⟩) (O := []) (js_ret (JD.w (j_if (jb_test (j_op upD r_ge (j_var nin) (j_var nin))) (j_var nin) (j_var nin)))) (fun _ m => absurd m List.not_mem_nil) h⟩)
theorem ok_is_name {f : Addr} {fd : FuncData} (F : Fun K "is_name" "is_name" s_is_name f fd) (T : TxD2 mg) (TN : TxN mg n_MOST_LETTERS n_MOST_STEPS n_LEAST_NUMBERS n_LEAST_NARROW n_MOST_PACE n_MOST_IN_TWO_EVENTS) : FnOk P w K mg base CX0 1 f fd P_is_name (spD ⟨K, κ⟩ 1 L_is_name) := by
  exact F.ok sc_is_name (fun vs H Q E h => h.1) (fun cdv A outer s H vs Q E hr h => ⟨_, (pss_cons (ps_if (PW.pt (pw_or (pt_not (pt_val (pe_callB call_isi (by rfl) T.n_isinstance (by decide +kernel) (pa_cons (pv 0) (pa_cons (pe_bltn (v := .ty "str") (by rfl) T.n_str (by decide +kernel) rfl) pa_nil))))) (pw_or1 (pt_cmpR op_gt (pe_callB call_len_str (by rfl) T.n_len (by decide +kernel) (pa_cons (pv 0) pa_nil)) (pe_glob (v := .int 8) rfl TN.g_MOST_LETTERS ⟨_, rfl⟩) (nomark _))))) (pss_one (ps_ret pe_bl)) pss_nil)
      (pss_one (ps_ret (pe_and (pe_m0 PySem.F.slot_str_isascii PySem.F.type_str_isascii mt_isascii (pv 0)) (pe_and (pe_m0 PySem.F.slot_str_isalpha PySem.F.type_str_isalpha mt_isalpha (pv 0)) (pe_one (pe_m0 PySem.F.slot_str_islower PySem.F.type_str_islower mt_islower (pv 0)))))))), ok_body (Z := ⟨K, κ⟩) (O := []) (js_seq (js_if (jb_or (jb_not (jb_B (j_cb c_isi (ja_consW (JD.w (j_var nin)) (ja_cons j_ty ja_nil))))) (jb_test (j_op upD r_gt (j_cb c_lenS (ja_cons (j_var nin) ja_nil)) j_int))) (js_ret (JD.w j_bl)) js_next)
      (js_ret (JD.w (j_andV (j_m0 (fun _ _ _ h => m0_isascii h) (j_var nin)) (j_andV (j_m0 (fun _ _ _ h => m0_isalpha h) (j_var nin)) (j_m0 (fun _ _ _ h => m0_islower h) (j_var nin))))))) (fun _ m => absurd m List.not_mem_nil) h⟩)
theorem ok_is_tuple_of {f : Addr} {fd : FuncData} (F : Fun K "is_tuple_of" "is_tuple_of" s_is_tuple_of f fd) (T : TxD2 mg) : FnOk P w K mg base CX0 1 f fd P_is_tuple_of (spD ⟨K, κ⟩ 3 L_is_tuple_of) := by
  exact F.ok sc_is_tuple_of (fun vs H Q E h => h.1) (fun cdv A outer s H vs Q E hr h => ⟨_, (pss_one (ps_ret (pe_and (pe_callB call_isi (by rfl) T.n_isinstance (by decide +kernel) (pa_cons (pv 0) (pa_cons (pe_bltn (v := .ty "tuple") (by rfl) T.n_tuple (by decide +kernel) rfl) pa_nil))) (pe_one (pe_chain op_le op_le (pv 1) (pe_callB call_len_seq (by rfl) T.n_len (by decide +kernel) (pa_cons (pv 0) pa_nil)) (pv 2)))))), ok_body (Z := ⟨K, κ⟩) (O := []) (js_ret (JD.w (j_andV (j_cb c_isi (ja_consW (JD.w (j_var nin)) (ja_cons j_ty ja_nil))) (j_chain r_le r_le (j_var nin) (j_cb c_len (ja_consW (JD.w (j_var nin)) ja_nil)) (j_var nin))))) (fun _ m => absurd m List.not_mem_nil) h⟩)
theorem ok_is_ascending {f : Addr} {fd : FuncData} (F : Fun K "is_ascending" "is_ascending" s_is_ascending f fd) (T : TxD2 mg) : FnOk P w K mg base CX0 1 f fd P_is_ascending (spD ⟨K, κ⟩ 1 L_is_ascending) := by
  exact F.ok sc_is_ascending (fun vs H Q E h => h.1) (fun cdv A outer s H vs Q E hr h => ⟨_, (pss_one (ps_ret (pe_callB (cr_all rfl) (by rfl) T.n_all (by decide +kernel) (pa_cons (pe_lc (own := [("one", 1), ("other", 2)]) (g := (gTup _ 2 (gCons (gName 1) (gCons (gName 2) gNil)))) (tt := tYes) rfl sc_is_ascending.nd (pi_zipG rfl T.n_zip (pa_cons (pv 0) (pa_cons (pe_slice sl_list (pv 0) (po_some pe_int) po_none) pa_nil))) (blkOk_by (N := N_is_ascending) (sc := defScope s_is_ascending) (by decide +kernel)) (fun _ _ _ _ _ => (pg_tup rfl (pgs_cons (pg_name (i := 1) sc_is_ascending.nd rfl (Or.inl rfl)) (pgs_cons (pg_name (i := 2) sc_is_ascending.nd rfl (Or.inl rfl)) pgs_nil)))) (fun _ _ _ _ _ => pts_nil) (fun _ _ _ _ _ => (pe_cmpR op_lt_str (pv 1) (pv 2) (nomark _)))) pa_nil)))), ok_body (Z := ⟨K, κ⟩) (O := []) (js_ret (JD.w (j_cb c_all (ja_consW (JD.w (j_lc (ji_zipG xCo (ja_cons (j_var nin) (ja_cons (j_slL (JD.w (j_var nin)) (jo_some j_int) jo_none) ja_nil))) (jg_tup (jg_cons (jg_name nin (fun w e => by cases e; decide)) (jg_cons (jg_name nin (fun w e => by cases e; decide)) jg_nil))) jb_yes (j_op upD r_ltS (j_var nin) (j_var nin)))) ja_nil)))) (fun _ m => absurd m List.not_mem_nil) h⟩)
theorem ok_is_ascendingT {f : Addr} {fd : FuncData} (F : Fun K "is_ascending" "is_ascending" s_is_ascending f fd) (T : TxD2 mg) : FnOk P w K mg base CX0 1 f fd P_is_ascending (spD ⟨K, κ⟩ 1 L_is_ascendingT) := by
  exact F.ok sc_is_ascending (fun vs H Q E h => h.1) (fun cdv A outer s H vs Q E hr h => ⟨_, (pss_one (ps_ret (pe_callB (cr_all rfl) (by rfl) T.n_all (by decide +kernel) (pa_cons (pe_lc (own := [("one", 1), ("other", 2)]) (g := (gTup _ 2 (gCons (gName 1) (gCons (gName 2) gNil)))) (tt := tYes) rfl sc_is_ascending.nd (pi_zipG rfl T.n_zip (pa_cons (pv 0) (pa_cons (pe_slice sl_tupA (pv 0) (po_some pe_int) po_none) pa_nil))) (blkOk_by (N := N_is_ascending) (sc := defScope s_is_ascending) (by decide +kernel)) (fun _ _ _ _ _ => (pg_tup rfl (pgs_cons (pg_name (i := 1) sc_is_ascending.nd rfl (Or.inl rfl)) (pgs_cons (pg_name (i := 2) sc_is_ascending.nd rfl (Or.inl rfl)) pgs_nil)))) (fun _ _ _ _ _ => pts_nil) (fun _ _ _ _ _ => (pe_cmpR op_lt_str (pv 1) (pv 2) (nomark _)))) pa_nil)))), ok_body (Z := ⟨K, κ⟩) (O := []) (js_ret (JD.w (j_cb c_all (ja_consW (JD.w (j_lc (ji_zipG xCo (ja_cons (j_var nin) (ja_cons (j_slT (j_var nin) (jo_some j_int) jo_none) ja_nil))) (jg_tup (jg_cons (jg_name nin (fun w e => by cases e; decide)) (jg_cons (jg_name nin (fun w e => by cases e; decide)) jg_nil))) jb_yes (j_op upD r_ltS (j_var nin) (j_var nin)))) ja_nil)))) (fun _ m => absurd m List.not_mem_nil) h⟩)
theorem ok_is_count {f : Addr} {fd : FuncData} (F : Fun K "is_count" "is_count" s_is_count f fd) (T : TxD2 mg) (cL_is_integer : Cal P w K mg base 1 "is_integer" P_is_integer (spD ⟨K, κ⟩ 1 L_is_integer)) : FnOk P w K mg base CX0 2 f fd P_is_count (spD ⟨K, κ⟩ 1 L_is_count) := by
  obtain ⟨f_is_integer, fd_is_integer, G_is_integer, b_is_integer, g_is_integer, k_is_integer⟩ := cL_is_integer
  exact F.ok sc_is_count (fun vs H Q E h => h.1) (fun cdv A outer s H vs Q E hr h => ⟨_, (pss_one (ps_ret (pe_and (pe_call G_is_integer (hr.mono (by decide)) rfl g_is_integer k_is_integer b_is_integer .nil pass0 (pa_cons (pv 0) pa_nil)) (pe_one (pe_cmpR op_ge (pv 0) pe_int (nomark _)))))), ok_body (Z := ⟨K, κ⟩) (O := []) (js_ret (JD.w (j_andV (j_callV via_id (ja_cons (j_var nin) ja_nil) (len_cons (fun _ _ _ _ h => len_nil h))) (j_op upD r_ge (j_var nin) j_int)))) (fun _ m => absurd m List.not_mem_nil) h⟩)
theorem ok_is_plain_part {f : Addr} {fd : FuncData} (F : Fun K "is_plain_part" "is_plain_part" s_is_plain_part f fd) (T : TxD2 mg) (GT_SIDES : GTup K mg "SIDES" a_SIDES ["narrow", "wide"]) (GT_RULES : GTup K mg "RULES" a_RULES ["cut", "empty", "refuse"]) (GT_MANNERS : GTup K mg "MANNERS" a_MANNERS ["empty", "anew"]) (cL_is_integer : Cal P w K mg base 1 "is_integer" P_is_integer (spD ⟨K, κ⟩ 1 L_is_integer)) (cL_is_count : Cal P w K mg base 2 "is_count" P_is_count (spD ⟨K, κ⟩ 1 L_is_count)) : FnOk P w K mg base CX0 3 f fd P_is_plain_part (spD ⟨K, κ⟩ 2 L_is_plain_part) := by
  obtain ⟨f_is_integer, fd_is_integer, G_is_integer, b_is_integer, g_is_integer, k_is_integer⟩ := cL_is_integer
  obtain ⟨f_is_count, fd_is_count, G_is_count, b_is_count, g_is_count, k_is_count⟩ := cL_is_count
  exact F.ok sc_is_plain_part (fun vs H Q E h => h.1) (fun cdv A outer s H vs Q E hr h => ⟨_, (pss_cons (ps_if (pt_cmpR op_eq (pv 0) pe_str (nomark _)) (pss_one (ps_ret (pe_cmpR (op_inS (neg := false) (Z := ⟨K, κ⟩) (hu70 hr) rfl) (pv 1) (pe_glob (v := .ref a_SIDES) rfl GT_SIDES.g rfl) rfl))) pss_nil)
      (pss_cons (ps_if (pt_cmpR op_eq (pv 0) pe_str (nomark _)) (pss_one (ps_ret (pe_cmpR (op_inS (neg := false) (Z := ⟨K, κ⟩) (hu70 hr) rfl) (pv 1) (pe_glob (v := .ref a_RULES) rfl GT_RULES.g rfl) rfl))) pss_nil)
      (pss_cons (ps_if (pt_cmpR op_eq (pv 0) pe_str (nomark _)) (pss_one (ps_ret (pe_cmpR (op_inS (neg := false) (Z := ⟨K, κ⟩) (hu70 hr) rfl) (pv 1) (pe_glob (v := .ref a_MANNERS) rfl GT_MANNERS.g rfl) rfl))) pss_nil)
      (pss_cons (ps_if (pt_cmpR op_eq (pv 0) pe_str (nomark _)) (pss_one (ps_ret (pe_call G_is_integer (hr.mono (by decide)) rfl g_is_integer k_is_integer b_is_integer .nil pass0 (pa_cons (pv 1) pa_nil)))) pss_nil)
      (pss_one (ps_ret (pe_call G_is_count (hr.mono (by decide)) rfl g_is_count k_is_count b_is_count .nil pass0 (pa_cons (pv 1) pa_nil)))))))), ok_body (Z := ⟨K, κ⟩) (O := []) (js_seq (js_if (jb_test (j_op upD r_eq (j_var nin) j_str)) (js_ret (JD.w (j_op upD (r_inS (neg := false)) (j_var nin) (JD.w (j_c GT_SIDES.isD))))) js_next)
      (js_seq (js_if (jb_test (j_op upD r_eq (j_var nin) j_str)) (js_ret (JD.w (j_op upD (r_inS (neg := false)) (j_var nin) (JD.w (j_c GT_RULES.isD))))) js_next)
      (js_seq (js_if (jb_test (j_op upD r_eq (j_var nin) j_str)) (js_ret (JD.w (j_op upD (r_inS (neg := false)) (j_var nin) (JD.w (j_c GT_MANNERS.isD))))) js_next)
      (js_seq (js_if (jb_test (j_op upD r_eq (j_var nin) j_str)) (js_ret (JD.w (j_callV via_id (ja_cons (j_var nin) ja_nil) (len_cons (fun _ _ _ _ h => len_nil h))))) js_next)
      (js_ret (JD.w (j_callV via_id (ja_cons (j_var nin) ja_nil) (len_cons (fun _ _ _ _ h => len_nil h))))))))) (fun _ m => absurd m List.not_mem_nil) h⟩)
theorem ok__first_word {f : Addr} {fd : FuncData} (F : Fun K "_first_word" "_first_word" s__first_word f fd) (T : TxD2 mg) : FnOk P w K mg base CX0 1 f fd P__first_word (spD ⟨K, κ⟩ 1 L__first_word) := by
  exact F.ok sc__first_word (fun vs H Q E h => h.1) (fun cdv A outer s H vs Q E hr h => ⟨_, (pss_cons (ps_if (PW.pt (pw_or (pt_not (pt_val (pe_callB call_isi (by rfl) T.n_isinstance (by decide +kernel) (pa_cons (pv 0) (pa_cons (pe_bltn (v := .ty "tuple") (by rfl) T.n_tuple (by decide +kernel) rfl) pa_nil))))) (pw_or (pt_not (pt_truth (pv 0) (fun _ => rfl))) (pw_or1 (pt_not (pt_val (pe_callB call_isi (by rfl) T.n_isinstance (by decide +kernel) (pa_cons (pe_ix ix_tup (pv 0) pe_int (fun _ _ => rfl)) (pa_cons (pe_bltn (v := .ty "str") (by rfl) T.n_str (by decide +kernel) rfl) pa_nil))))))))) (pss_one (ps_ret pe_str)) pss_nil)
      (pss_one (ps_ret (pe_ix ix_tup (pv 0) pe_int (fun _ _ => rfl))))), ok_body (Z := ⟨K, κ⟩) (O := []) (js_seq (js_if (jb_or (jb_not (jb_B (j_cb c_isi (ja_consW (JD.w (j_var nin)) (ja_cons j_ty ja_nil))))) (jb_or (jb_not (jb_tru (j_var nin))) (jb_not (jb_B (j_cb c_isi (ja_consW (JD.w (j_op upD r_ixT (j_var nin) j_int)) (ja_cons j_ty ja_nil))))))) (js_ret (JD.w j_str)) js_next)
      (js_ret (JD.w (j_op upD r_ixT (j_var nin) j_int)))) (fun _ m => absurd m List.not_mem_nil) h⟩)
theorem ok_step_form {f : Addr} {fd : FuncData} (F : Fun K "step_form" "step_form" s_step_form f fd) (T : TxD2 mg) (KT_STEP_FORMS : GTab K w mg "STEP_FORMS" a_STEP_FORMS t_STEP_FORMS) (cL__first_word : Cal P w K mg base 1 "_first_word" P__first_word (spD ⟨K, κ⟩ 1 L__first_word)) : FnOk P w K mg base CX0 2 f fd P_step_form (spD ⟨K, κ⟩ 1 L_step_form) := by
  obtain ⟨f__first_word, fd__first_word, G__first_word, b__first_word, g__first_word, k__first_word⟩ := cL__first_word
  exact F.ok sc_step_form (fun vs H Q E h => h.1) (fun cdv A outer s H vs Q E hr h => ⟨_, (pss_one (ps_ret (pe_kget KT_STEP_FORMS.kt (pe_glob (v := .ref a_STEP_FORMS) rfl KT_STEP_FORMS.g rfl) (pe_call G__first_word (hr.mono (by decide)) rfl g__first_word k__first_word b__first_word .nil pass0 (pa_cons (pv 0) pa_nil)) ⟨rfl, rfl, rfl, rfl⟩))), ok_body (Z := ⟨K, κ⟩) (O := []) (js_ret (JD.w (j_kget KT_STEP_FORMS.tab (j_callV via_id (ja_cons (j_var nin) ja_nil) (len_cons (fun _ _ _ _ h => len_nil h)))))) (fun _ m => absurd m List.not_mem_nil) h⟩)
theorem ok_other_side {f : Addr} {fd : FuncData} (F : Fun K "other_side" "other_side" s_other_side f fd) (T : TxD2 mg) : FnOk P w K mg base CX0 1 f fd P_other_side (spD ⟨K, κ⟩ 1 L_other_side) := by
  exact F.ok sc_other_side (fun vs H Q E h => h.1) (fun cdv A outer s H vs Q E hr h => ⟨_, (pss_one (ps_ret (pe_ifExp (pt_cmpR op_eq (pv 0) pe_str (nomark _)) pe_str pe_str))), ok_body (Z := ⟨K, κ⟩) (O := []) (js_ret (JD.w (j_if (jb_test (j_op upD r_eq (j_var nin) j_str)) j_str j_str))) (fun _ m => absurd m List.not_mem_nil) h⟩)
theorem ok_editions_of {f : Addr} {fd : FuncData} (F : Fun K "editions_of" "editions_of" s_editions_of f fd) (T : TxD2 mg) (CT_World : ClsI K mg ⟨K, κ⟩ "World" "World" ["narrow", "wide", "columns", "programs"]) : FnOk P w K mg base CX0 1 f fd P_editions_of (spD ⟨K, κ⟩ 2 L_editions_of) := by
  exact F.ok sc_editions_of (fun vs H Q E h => h.1) (fun cdv A outer s H vs Q E hr h => ⟨_, (pss_cons (ps_for PassesOwn.never rfl (pi_tup (pe_fld (pv 0) rfl)) (pg_tup rfl (pgs_cons (pg_name (i := 2) sc_editions_of.nd rfl (Or.inl rfl)) (pgs_cons (pg_name (i := 3) sc_editions_of.nd rfl (Or.inl rfl)) pgs_nil))) (pss_one (ps_if (pt_cmpR op_eq (pv 2) (pv 1) (nomark _)) (pss_one (ps_ret (pv 3))) pss_nil)))
      (pss_one (ps_ret (pe_tup pa_nil)))), ok_body (Z := ⟨K, κ⟩) (O := []) (js_seq (js_for (ji_tup xS (j_fldI CT_World.t (.tail _ (.tail _ (.tail _ (.head _)))) (j_var nin))) (jg_tup (jg_cons (jg_name nin nofun) (jg_cons (jg_name nin nofun) jg_nil))) (js_if (jb_test (j_op upD r_eq (j_var nin) (j_var nin))) (js_ret (JD.w (j_var nin))) js_next))
      (js_ret (JD.w (j_tup ja_nil)))) (fun _ m => absurd m List.not_mem_nil) h⟩)
theorem ok_is_span {f : Addr} {fd : FuncData} (F : Fun K "is_span" "is_span" s_is_span f fd) (T : TxD2 mg) (cL_is_integer : Cal P w K mg base 1 "is_integer" P_is_integer (spD ⟨K, κ⟩ 1 L_is_integer)) : FnOk P w K mg base CX0 2 f fd P_is_span (spD ⟨K, κ⟩ 1 L_is_span) := by
  obtain ⟨f_is_integer, fd_is_integer, G_is_integer, b_is_integer, g_is_integer, k_is_integer⟩ := cL_is_integer
  exact F.ok sc_is_span (fun vs H Q E h => h.1) (fun cdv A outer s H vs Q E hr h => ⟨_, (pss_cons (ps_if (PW.pt (pw_or (pt_not (pt_val (pe_callB call_isi (by rfl) T.n_isinstance (by decide +kernel) (pa_cons (pv 0) (pa_cons (pe_bltn (v := .ty "tuple") (by rfl) T.n_tuple (by decide +kernel) rfl) pa_nil))))) (pw_or1 (pt_cmpR op_ne (pe_callB call_len_seq (by rfl) T.n_len (by decide +kernel) (pa_cons (pv 0) pa_nil)) pe_int (nomark _))))) (pss_one (ps_ret pe_bl)) pss_nil)
      (pss_cons (ps_asg (pv 0) (pg_tup rfl (pgs_cons (pg_name (i := 1) sc_is_span.nd rfl (Or.inl rfl)) (pgs_cons (pg_name (i := 2) sc_is_span.nd rfl (Or.inl rfl)) pgs_nil))))
      (pss_one (ps_ret (pe_and (pe_call G_is_integer (hr.mono (by decide)) rfl g_is_integer k_is_integer b_is_integer .nil pass0 (pa_cons (pv 1) pa_nil)) (pe_and (pe_call G_is_integer (hr.mono (by decide)) rfl g_is_integer k_is_integer b_is_integer .nil pass0 (pa_cons (pv 2) pa_nil)) (pe_one (pe_cmpR op_le (pv 1) (pv 2) (nomark _))))))))), ok_body (Z := ⟨K, κ⟩) (O := []) (js_seq (js_if (jb_or (jb_not (jb_B (j_cb c_isi (ja_consW (JD.w (j_var nin)) (ja_cons j_ty ja_nil))))) (jb_test (j_op upD r_ne (j_cb c_len (ja_consW (JD.w (j_var nin)) ja_nil)) j_int))) (js_ret (JD.w j_bl)) js_next)
      (js_seq (js_asg (j_var nin) (jg_tup (jg_cons (jg_name nin nofun) (jg_cons (jg_name nin nofun) jg_nil))))
      (js_ret (JD.w (j_andV (j_callV via_id (ja_cons (j_var nin) ja_nil) (len_cons (fun _ _ _ _ h => len_nil h))) (j_andV (j_callV via_id (ja_cons (j_var nin) ja_nil) (len_cons (fun _ _ _ _ h => len_nil h))) (j_op upD r_le (j_var nin) (j_var nin)))))))) (fun _ m => absurd m List.not_mem_nil) h⟩)
theorem ok_Kind___init__ {f : Addr} {fd : FuncData} (F : Fun K "__init__" "Kind.__init__" s_Kind___init__ f fd) (T : TxD2 mg) (cL_is_integer : Cal P w K mg base 1 "is_integer" P_is_integer (spD ⟨K, κ⟩ 1 L_is_integer)) (CT_Kind : ClsI K mg ⟨K, κ⟩ "Kind" "Kind" ["low", "high", "size"]) : FnOk P w K mg base CX0 2 f fd P_Kind___init__ (spD ⟨K, κ⟩ 3 L_Kind___init__) := by
  obtain ⟨f_is_integer, fd_is_integer, G_is_integer, b_is_integer, g_is_integer, k_is_integer⟩ := cL_is_integer
  exact F.ok sc_Kind___init__ (fun vs H Q E h => h.1) (fun cdv A outer s H vs Q E hr h => ⟨_, (pss_cons (ps_if (PW.pt (pw_or (pt_not (pt_val (pe_call G_is_integer (hr.mono (by decide)) rfl g_is_integer k_is_integer b_is_integer .nil pass0 (pa_cons (pv 1) pa_nil)))) (pw_or (pt_not (pt_val (pe_call G_is_integer (hr.mono (by decide)) rfl g_is_integer k_is_integer b_is_integer .nil pass0 (pa_cons (pv 2) pa_nil)))) (pw_or1 (pt_not (pt_chain op_le op_le (pv 1) pe_int (pv 2))))))) (pss_one ps_never) pss_nil)
      (pss_cons (ps_fld (pv 0) (pv 1) rfl)
      (pss_cons (ps_fld (pv 0) (pv 2) rfl)
      (pss_one (ps_fld (pv 0) (pe_op op_add (pe_op op_sub (pv 2) (pv 1)) pe_int) rfl))))), ok_body (Z := ⟨K, κ⟩) (O := []) (js_seq (js_if (jb_or (jb_not (jb_B (j_callV via_id (ja_cons (j_var nin) ja_nil) (len_cons (fun _ _ _ _ h => len_nil h))))) (jb_or (jb_not (jb_B (j_callV via_id (ja_cons (j_var nin) ja_nil) (len_cons (fun _ _ _ _ h => len_nil h))))) (jb_not (jb_test (j_chain r_le r_le (j_var nin) j_int (j_var nin)))))) js_never js_next)
      (js_seq (js_setFL CT_Kind.t (.head _) (j_var nin) (j_var nin))
      (js_seq (js_setFL CT_Kind.t (.tail _ (.head _)) (j_var nin) (j_var nin))
      (js_setFL CT_Kind.t (.tail _ (.tail _ (.head _))) (j_var nin) (j_op upD r_add (j_op upD r_sub (j_var nin) (j_var nin)) j_int))))) (fun _ m => absurd m List.not_mem_nil) h⟩)
theorem ok_Kind___contains__ {f : Addr} {fd : FuncData} (F : Fun K "__contains__" "Kind.__contains__" s_Kind___contains__ f fd) (T : TxD2 mg) (cL_is_between : Cal P w K mg base 2 "is_between" P_is_between (spD ⟨K, κ⟩ 3 L_is_between)) (CT_Kind : ClsI K mg ⟨K, κ⟩ "Kind" "Kind" ["low", "high", "size"]) : FnOk P w K mg base CX0 3 f fd P_Kind___contains__ (spD ⟨K, κ⟩ 2 L_Kind___contains__) := by
  obtain ⟨f_is_between, fd_is_between, G_is_between, b_is_between, g_is_between, k_is_between⟩ := cL_is_between
  exact F.ok sc_Kind___contains__ (fun vs H Q E h => h.1) (fun cdv A outer s H vs Q E hr h => ⟨_, (pss_one (ps_ret (pe_call G_is_between (hr.mono (by decide)) rfl g_is_between k_is_between b_is_between .nil pass0 (pa_cons (pv 1) (pa_cons (pe_fld (pv 0) rfl) (pa_cons (pe_fld (pv 0) rfl) pa_nil)))))), ok_body (Z := ⟨K, κ⟩) (O := []) (js_ret (JD.w (j_callV via_id (ja_cons (j_var nin) (ja_cons (j_fldI CT_Kind.t (.head _) (j_var nin)) (ja_cons (j_fldI CT_Kind.t (.tail _ (.head _)) (j_var nin)) ja_nil))) (len_cons (len_cons (len_cons (fun _ _ _ _ h => len_nil h))))))) (fun _ m => absurd m List.not_mem_nil) h⟩)
theorem ok_Kind___le__ {f : Addr} {fd : FuncData} (F : Fun K "__le__" "Kind.__le__" s_Kind___le__ f fd) (T : TxD2 mg) (CT_Kind : ClsI K mg ⟨K, κ⟩ "Kind" "Kind" ["low", "high", "size"]) : FnOk P w K mg base CX0 1 f fd P_Kind___le__ (spD ⟨K, κ⟩ 2 L_Kind___le__) := by
  exact F.ok sc_Kind___le__ (fun vs H Q E h => h.1) (fun cdv A outer s H vs Q E hr h => ⟨_, (pss_cons (ps_if (pt_not (pt_val (pe_callB call_isi (by rfl) T.n_isinstance (by decide +kernel) (pa_cons (pv 1) (pa_cons (pe_glob (v := .ref (κ "Kind")) rfl CT_Kind.g rfl) pa_nil))))) (pss_one ps_never) pss_nil)
      (pss_one (ps_ret (pe_and (pe_cmpR op_le (pe_fld (pv 1) rfl) (pe_fld (pv 0) rfl) (nomark _)) (pe_one (pe_cmpR op_le (pe_fld (pv 0) rfl) (pe_fld (pv 1) rfl) (nomark _))))))), ok_body (Z := ⟨K, κ⟩) (O := []) (js_seq (js_if (jb_not (jb_B (j_cb (c_isiI CT_Kind.i) (ja_cons (j_var nin) (ja_cons j_cls ja_nil))))) js_never js_next)
      (js_ret (JD.w (j_andV (j_op upD r_le (j_fldI CT_Kind.t (.head _) (j_var nin)) (j_fldI CT_Kind.t (.head _) (j_var nin))) (j_op upD r_le (j_fldI CT_Kind.t (.tail _ (.head _)) (j_var nin)) (j_fldI CT_Kind.t (.tail _ (.head _)) (j_var nin))))))) (fun _ m => absurd m List.not_mem_nil) h⟩)
theorem ok_Kind___eq__ {f : Addr} {fd : FuncData} (F : Fun K "__eq__" "Kind.__eq__" s_Kind___eq__ f fd) (T : TxD2 mg) (CT_Kind : ClsI K mg ⟨K, κ⟩ "Kind" "Kind" ["low", "high", "size"]) : FnOk P w K mg base CX0 1 f fd P_Kind___eq__ (spD ⟨K, κ⟩ 2 L_Kind___eq__) := by
  exact F.ok sc_Kind___eq__ (fun vs H Q E h => h.1) (fun cdv A outer s H vs Q E hr h => ⟨_, (pss_one (ps_ret (pe_and (pe_callB call_isi (by rfl) T.n_isinstance (by decide +kernel) (pa_cons (pv 1) (pa_cons (pe_glob (v := .ref (κ "Kind")) rfl CT_Kind.g rfl) pa_nil))) (pe_and (pe_cmpR op_eq (pe_fld (pv 0) rfl) (pe_fld (pv 1) rfl) (nomark _)) (pe_one (pe_cmpR op_eq (pe_fld (pv 0) rfl) (pe_fld (pv 1) rfl) (nomark _))))))), ok_body (Z := ⟨K, κ⟩) (O := []) (js_ret (JD.w (j_andV (j_cb (c_isiI CT_Kind.i) (ja_cons (j_var nin) (ja_cons j_cls ja_nil))) (j_andV (j_op upD r_eq (j_fldI CT_Kind.t (.head _) (j_var nin)) (j_fldI CT_Kind.t (.head _) (j_var nin))) (j_op upD r_eq (j_fldI CT_Kind.t (.tail _ (.head _)) (j_var nin)) (j_fldI CT_Kind.t (.tail _ (.head _)) (j_var nin))))))) (fun _ m => absurd m List.not_mem_nil) h⟩)
theorem ok_Kind___lt__ {f : Addr} {fd : FuncData} (F : Fun K "__lt__" "Kind.__lt__" s_Kind___lt__ f fd) (T : TxD2 mg) (CT_Kind : ClsI K mg ⟨K, κ⟩ "Kind" "Kind" ["low", "high", "size"]) (cL_Kind___le__ : MeI P w K mg base ⟨K, κ⟩ 1 "Kind" "__le__" P_Kind___le__ (spD ⟨K, κ⟩ 2 L_Kind___le__)) (cL_Kind___eq__ : MeI P w K mg base ⟨K, κ⟩ 1 "Kind" "__eq__" P_Kind___eq__ (spD ⟨K, κ⟩ 2 L_Kind___eq__)) : FnOk P w K mg base CX0 2 f fd P_Kind___lt__ (spD ⟨K, κ⟩ 2 L_Kind___lt__) := by
  obtain ⟨f_Kind___le__, fd_Kind___le__, M_Kind___le__, G_Kind___le__, b_Kind___le__⟩ := cL_Kind___le__
  obtain ⟨f_Kind___eq__, fd_Kind___eq__, M_Kind___eq__, G_Kind___eq__, b_Kind___eq__⟩ := cL_Kind___eq__
  exact F.ok sc_Kind___lt__ (fun vs H Q E h => h.1) (fun cdv A outer s H vs Q E hr h => ⟨_, (pss_cons (ps_if (pt_not (pt_val (pe_callB call_isi (by rfl) T.n_isinstance (by decide +kernel) (pa_cons (pv 1) (pa_cons (pe_glob (v := .ref (κ "Kind")) rfl CT_Kind.g rfl) pa_nil))))) (pss_one ps_never) pss_nil)
      (pss_one (ps_ret (pe_and (pe_cmpR (op_cmpI (fun _ _ => rfl) M_Kind___le__.at_ M_Kind___le__.fn G_Kind___le__ (hr.mono (by decide)) b_Kind___le__ pass0) (pv 0) (pv 1) (nomark _)) (pe_one (pe_not (pe_cmpR (op_cmpI (fun _ _ => rfl) M_Kind___eq__.at_ M_Kind___eq__.fn G_Kind___eq__ (hr.mono (by decide)) b_Kind___eq__ pass0) (pv 0) (pv 1) (nomark _)))))))), ok_body (Z := ⟨K, κ⟩) (O := []) (js_seq (js_if (jb_not (jb_B (j_cb (c_isiI CT_Kind.i) (ja_cons (j_var nin) (ja_cons j_cls ja_nil))))) js_never js_next)
      (js_ret (JD.w (j_andV (j_op upD (r_own2 via_id) (j_var nin) (j_var nin)) (j_notV (j_op upD (r_own2 via_id) (j_var nin) (j_var nin))))))) (fun _ m => absurd m List.not_mem_nil) h⟩)
theorem ok__are_none_or_many {f : Addr} {fd : FuncData} (F : Fun K "_are_none_or_many" "_are_none_or_many" s__are_none_or_many f fd) (T : TxD2 mg) (TN : TxN mg n_MOST_LETTERS n_MOST_STEPS n_LEAST_NUMBERS n_LEAST_NARROW n_MOST_PACE n_MOST_IN_TWO_EVENTS) : FnOk P w K mg base CX0 1 f fd P__are_none_or_many (spD ⟨K, κ⟩ 1 L__are_none_or_many) := by
  exact F.ok sc__are_none_or_many (fun vs H Q E h => h.1) (fun cdv A outer s H vs Q E hr h => ⟨_, (pss_one (ps_ret (pe_or (pe_cmpR op_le (pv 0) pe_int (nomark _)) (pe_one (pe_cmpR op_ge (pv 0) (pe_glob (v := .int 16) rfl TN.g_LEAST_NUMBERS ⟨_, rfl⟩) (nomark _)))))), ok_body (Z := ⟨K, κ⟩) (O := []) (js_ret (JD.w (j_orV (j_op upD r_le (j_var nin) j_int) (j_op upD r_ge (j_var nin) j_int)))) (fun _ m => absurd m List.not_mem_nil) h⟩)
theorem ok_is_fit {f : Addr} {fd : FuncData} (F : Fun K "is_fit" "is_fit" s_is_fit f fd) (T : TxD2 mg) (cL_is_span : Cal P w K mg base 2 "is_span" P_is_span (spD ⟨K, κ⟩ 1 L_is_span)) (CT_World : ClsI K mg ⟨K, κ⟩ "World" "World" ["narrow", "wide", "columns", "programs"]) (CT_Kind : ClsI K mg ⟨K, κ⟩ "Kind" "Kind" ["low", "high", "size"]) (cL_Kind___contains__ : MeI P w K mg base ⟨K, κ⟩ 3 "Kind" "__contains__" P_Kind___contains__ (spD ⟨K, κ⟩ 2 L_Kind___contains__)) (cL_lesser : Cal P w K mg base 1 "lesser" P_lesser (spD ⟨K, κ⟩ 2 L_lesser)) (cL_greater : Cal P w K mg base 1 "greater" P_greater (spD ⟨K, κ⟩ 2 L_greater)) (cL__are_none_or_many : Cal P w K mg base 1 "_are_none_or_many" P__are_none_or_many (spD ⟨K, κ⟩ 1 L__are_none_or_many)) : FnOk P w K mg base CX0 4 f fd P_is_fit (spD ⟨K, κ⟩ 2 L_is_fit) := by
  obtain ⟨f_is_span, fd_is_span, G_is_span, b_is_span, g_is_span, k_is_span⟩ := cL_is_span
  obtain ⟨f_Kind___contains__, fd_Kind___contains__, M_Kind___contains__, G_Kind___contains__, b_Kind___contains__⟩ := cL_Kind___contains__
  obtain ⟨f_lesser, fd_lesser, G_lesser, b_lesser, g_lesser, k_lesser⟩ := cL_lesser
  obtain ⟨f_greater, fd_greater, G_greater, b_greater, g_greater, k_greater⟩ := cL_greater
  obtain ⟨f__are_none_or_many, fd__are_none_or_many, G__are_none_or_many, b__are_none_or_many, g__are_none_or_many, k__are_none_or_many⟩ := cL__are_none_or_many
  exact F.ok sc_is_fit (fun vs H Q E h => h.1) (fun cdv A outer s H vs Q E hr h => ⟨_, (pss_cons (ps_if (pt_not (pt_val (pe_call G_is_span (hr.mono (by decide)) rfl g_is_span k_is_span b_is_span .nil pass0 (pa_cons (pv 1) pa_nil)))) (pss_one (ps_ret pe_bl)) pss_nil)
      (pss_cons (ps_asg (pv 1) (pg_tup rfl (pgs_cons (pg_name (i := 2) sc_is_fit.nd rfl (Or.inl rfl)) (pgs_cons (pg_name (i := 3) sc_is_fit.nd rfl (Or.inl rfl)) pgs_nil))))
      (pss_cons (ps_if (PW.pt (pw_or (pt_cmpR op_lt (pv 2) (pe_fld (pe_fld (pv 0) rfl) rfl) (nomark _)) (pw_or1 (pt_cmpR (op_notInI M_Kind___contains__.at_ M_Kind___contains__.fn G_Kind___contains__ (hr.mono (by decide)) b_Kind___contains__ pass0) (pv 3) (pe_fld (pv 0) rfl) rfl)))) (pss_one (ps_ret pe_bl)) pss_nil)
      (pss_cons (ps_set (i := 4) sc_is_fit.nd rfl (Or.inl rfl) (pe_op op_add (pe_op op_sub (pe_call G_lesser (hr.mono (by decide)) rfl g_lesser k_lesser b_lesser .nil pass0 (pa_cons (pv 3) (pa_cons (pe_fld (pe_fld (pv 0) rfl) rfl) pa_nil))) (pv 2)) pe_int))
      (pss_cons (ps_set (i := 5) sc_is_fit.nd rfl (Or.inl rfl) (pe_op op_add (pe_op op_sub (pv 3) (pe_call G_greater (hr.mono (by decide)) rfl g_greater k_greater b_greater .nil pass0 (pa_cons (pv 2) (pa_cons (pe_op op_add (pe_fld (pe_fld (pv 0) rfl) rfl) pe_int) pa_nil)))) pe_int))
      (pss_one (ps_ret (pe_and (pe_call G__are_none_or_many (hr.mono (by decide)) rfl g__are_none_or_many k__are_none_or_many b__are_none_or_many .nil pass0 (pa_cons (pv 4) pa_nil)) (pe_one (pe_call G__are_none_or_many (hr.mono (by decide)) rfl g__are_none_or_many k__are_none_or_many b__are_none_or_many .nil pass0 (pa_cons (pv 5) pa_nil))))))))))), ok_body (Z := ⟨K, κ⟩) (O := []) (js_seq (js_if (jb_not (jb_B (j_callV via_id (ja_cons (j_var nin) ja_nil) (len_cons (fun _ _ _ _ h => len_nil h))))) (js_ret (JD.w j_bl)) js_next)
      (js_seq (js_asg (j_var nin) (jg_tup (jg_cons (jg_name nin nofun) (jg_cons (jg_name nin nofun) jg_nil))))
      (js_seq (js_if (jb_or (jb_test (j_op upD r_lt (j_var nin) (j_fldI CT_Kind.t (.head _) (j_fldI CT_World.t (.head _) (j_var nin))))) (jb_test (j_op upD (r_inI (neg := true) via_id) (j_var nin) (j_fldI CT_World.t (.tail _ (.head _)) (j_var nin))))) (js_ret (JD.w j_bl)) js_next)
      (js_seq (js_asg (j_op upD r_add (j_op upD r_sub (j_callV via_id (ja_cons (j_var nin) (ja_cons (j_fldI CT_Kind.t (.tail _ (.head _)) (j_fldI CT_World.t (.head _) (j_var nin))) ja_nil)) (len_cons (len_cons (fun _ _ _ _ h => len_nil h)))) (j_var nin)) j_int) (jg_name nin nofun))
      (js_seq (js_asg (j_op upD r_add (j_op upD r_sub (j_var nin) (j_callV via_id (ja_cons (j_var nin) (ja_cons (j_op upD r_add (j_fldI CT_Kind.t (.tail _ (.head _)) (j_fldI CT_World.t (.head _) (j_var nin))) j_int) ja_nil)) (len_cons (len_cons (fun _ _ _ _ h => len_nil h))))) j_int) (jg_name nin nofun))
      (js_ret (JD.w (j_andV (j_callV via_id (ja_cons (j_var nin) ja_nil) (len_cons (fun _ _ _ _ h => len_nil h))) (j_callV via_id (ja_cons (j_var nin) ja_nil) (len_cons (fun _ _ _ _ h => len_nil h))))))))))) (fun _ m => absurd m List.not_mem_nil) h⟩)
theorem ok__are_kinds {f : Addr} {fd : FuncData} (F : Fun K "_are_kinds" "_are_kinds" s__are_kinds f fd) (T : TxD2 mg) (TN : TxN mg n_MOST_LETTERS n_MOST_STEPS n_LEAST_NUMBERS n_LEAST_NARROW n_MOST_PACE n_MOST_IN_TWO_EVENTS) (CT_Kind : ClsI K mg ⟨K, κ⟩ "Kind" "Kind" ["low", "high", "size"]) (cL_Kind___lt__ : MeI P w K mg base ⟨K, κ⟩ 2 "Kind" "__lt__" P_Kind___lt__ (spD ⟨K, κ⟩ 2 L_Kind___lt__)) : FnOk P w K mg base CX0 3 f fd P__are_kinds (spD ⟨K, κ⟩ 2 L__are_kinds) := by
  obtain ⟨f_Kind___lt__, fd_Kind___lt__, M_Kind___lt__, G_Kind___lt__, b_Kind___lt__⟩ := cL_Kind___lt__
  exact F.ok sc__are_kinds (fun vs H Q E h => h.1) (fun cdv A outer s H vs Q E hr h => ⟨_, (pss_cons (ps_if (PW.pt (pw_or (pt_not (pt_val (pe_callB call_isi (by rfl) T.n_isinstance (by decide +kernel) (pa_cons (pv 0) (pa_cons (pe_glob (v := .ref (κ "Kind")) rfl CT_Kind.g rfl) pa_nil))))) (pw_or1 (pt_not (pt_val (pe_callB call_isi (by rfl) T.n_isinstance (by decide +kernel) (pa_cons (pv 1) (pa_cons (pe_glob (v := .ref (κ "Kind")) rfl CT_Kind.g rfl) pa_nil)))))))) (pss_one (ps_ret pe_bl)) pss_nil)
      (pss_one (ps_ret (pe_and (pe_cmpR (op_cmpI (fun _ _ => rfl) M_Kind___lt__.at_ M_Kind___lt__.fn G_Kind___lt__ (hr.mono (by decide)) b_Kind___lt__ pass0) (pv 0) (pv 1) (nomark _)) (pe_one (pe_cmpR op_ge (pe_fld (pv 0) rfl) (pe_glob (v := .int 16) rfl TN.g_LEAST_NARROW ⟨_, rfl⟩) (nomark _))))))), ok_body (Z := ⟨K, κ⟩) (O := []) (js_seq (js_if (jb_or (jb_not (jb_B (j_cb (c_isiI CT_Kind.i) (ja_cons (j_var nin) (ja_cons j_cls ja_nil))))) (jb_not (jb_B (j_cb (c_isiI CT_Kind.i) (ja_cons (j_var nin) (ja_cons j_cls ja_nil)))))) (js_ret (JD.w j_bl)) js_next)
      (js_ret (JD.w (j_andV (j_op upD (r_own2 via_id) (j_var nin) (j_var nin)) (j_op upD r_ge (j_fldI CT_Kind.t (.tail _ (.tail _ (.head _))) (j_var nin)) j_int))))) (fun _ m => absurd m List.not_mem_nil) h⟩)
theorem ok__are_columns {f : Addr} {fd : FuncData} (F : Fun K "_are_columns" "_are_columns" s__are_columns f fd) (T : TxD2 mg) (cL_is_tuple_of : Cal P w K mg base 1 "is_tuple_of" P_is_tuple_of (spD ⟨K, κ⟩ 3 L_is_tuple_of)) (cL_is_name : Cal P w K mg base 1 "is_name" P_is_name (spD ⟨K, κ⟩ 1 L_is_name)) (cL_is_ascendingT : Cal P w K mg base 1 "is_ascending" P_is_ascending (spD ⟨K, κ⟩ 1 L_is_ascendingT)) : FnOk P w K mg base CX0 2 f fd P__are_columns (spD ⟨K, κ⟩ 1 L__are_columns) := by
  obtain ⟨f_is_tuple_of, fd_is_tuple_of, G_is_tuple_of, b_is_tuple_of, g_is_tuple_of, k_is_tuple_of⟩ := cL_is_tuple_of
  obtain ⟨f_is_name, fd_is_name, G_is_name, b_is_name, g_is_name, k_is_name⟩ := cL_is_name
  obtain ⟨f_is_ascending, fd_is_ascending, G_is_ascending, b_is_ascending, g_is_ascending, k_is_ascending⟩ := cL_is_ascendingT
  exact F.ok sc__are_columns (fun vs H Q E h => h.1) (fun cdv A outer s H vs Q E hr h => ⟨_, (pss_cons (ps_if (PW.pt (pw_or (pt_not (pt_val (pe_call G_is_tuple_of (hr.mono (by decide)) rfl g_is_tuple_of k_is_tuple_of b_is_tuple_of .nil pass0 (pa_cons (pv 0) (pa_cons pe_int (pa_cons pe_int pa_nil)))))) (pw_or1 (pt_not (pt_val (pe_callB (cr_all rfl) (by rfl) T.n_all (by decide +kernel) (pa_cons (pe_lc (own := [("column", 1)]) (g := (gName 1)) (tt := tYes) rfl sc__are_columns.nd (pi_tup (pv 0)) (blkOk_by (N := N__are_columns) (sc := defScope s__are_columns) (by decide +kernel)) (fun _ _ _ _ _ => (pg_name (i := 1) sc__are_columns.nd rfl (Or.inl rfl))) (fun _ _ _ _ _ => pts_nil) (fun _ _ _ _ _ => (pe_call G_is_name (hr.mono (by decide)) rfl g_is_name k_is_name b_is_name .nil pass0 (pa_cons (pv 1) pa_nil)))) pa_nil))))))) (pss_one (ps_ret pe_bl)) pss_nil)
      (pss_one (ps_ret (pe_call G_is_ascending (hr.mono (by decide)) rfl g_is_ascending k_is_ascending b_is_ascending .nil pass0 (pa_cons (pv 0) pa_nil))))), ok_body (Z := ⟨K, κ⟩) (O := []) (js_seq (js_if (jb_or (jb_not (jb_B (j_callV via_id (ja_cons (j_var nin) (ja_cons j_int (ja_cons j_int ja_nil))) (len_cons (len_cons (len_cons (fun _ _ _ _ h => len_nil h))))))) (jb_not (jb_B (j_cb c_all (ja_consW (JD.w (j_lc (ji_tup xCo (j_var nin)) (jg_name nin (fun w e => by cases e; decide)) jb_yes (j_callV via_id (ja_cons (j_var nin) ja_nil) (len_cons (fun _ _ _ _ h => len_nil h))))) ja_nil))))) (js_ret (JD.w j_bl)) js_next)
      (js_ret (JD.w (j_callV via_id (ja_cons (j_var nin) ja_nil) (len_cons (fun _ _ _ _ h => len_nil h)))))) (fun _ m => absurd m List.not_mem_nil) h⟩)
theorem ok__are_rows {f : Addr} {fd : FuncData} (F : Fun K "_are_rows" "_are_rows" s__are_rows f fd) (T : TxD2 mg) (cL_is_tuple_of : Cal P w K mg base 1 "is_tuple_of" P_is_tuple_of (spD ⟨K, κ⟩ 3 L_is_tuple_of)) (cL_is_ascending : Cal P w K mg base 1 "is_ascending" P_is_ascending (spD ⟨K, κ⟩ 1 L_is_ascending)) : FnOk P w K mg base CX0 2 f fd P__are_rows (spD ⟨K, κ⟩ 3 L__are_rows) := by
  obtain ⟨f_is_tuple_of, fd_is_tuple_of, G_is_tuple_of, b_is_tuple_of, g_is_tuple_of, k_is_tuple_of⟩ := cL_is_tuple_of
  obtain ⟨f_is_ascending, fd_is_ascending, G_is_ascending, b_is_ascending, g_is_ascending, k_is_ascending⟩ := cL_is_ascending
  exact F.ok sc__are_rows (fun vs H Q E h => h.1) (fun cdv A outer s H vs Q E hr h => ⟨_, (pss_cons (ps_if (pt_not (pt_val (pe_callB call_isi (by rfl) T.n_isinstance (by decide +kernel) (pa_cons (pv 1) (pa_cons (pe_bltn (v := .ty "tuple") (by rfl) T.n_tuple (by decide +kernel) rfl) pa_nil))))) (pss_one (ps_ret pe_bl)) pss_nil)
      (pss_cons (ps_for PassesOwn.never rfl (pi_tup (pv 1)) (pg_name (i := 3) sc__are_rows.nd rfl (Or.inl rfl)) (pss_one (ps_if (PW.pt (pw_or (pt_not (pt_val (pe_call G_is_tuple_of (hr.mono (by decide)) rfl g_is_tuple_of k_is_tuple_of b_is_tuple_of .nil pass0 (pa_cons (pv 3) (pa_cons (pv 2) (pa_cons (pv 2) pa_nil)))))) (pw_or1 (pt_cmpR (op_inS (neg := true) (Z := ⟨K, κ⟩) (hu70 hr) rfl) (pe_ix ix_tup (pv 3) pe_int (fun _ _ => rfl)) (pv 0) rfl)))) (pss_one (ps_ret pe_bl)) pss_nil)))
      (pss_one (ps_ret (pe_call G_is_ascending (hr.mono (by decide)) rfl g_is_ascending k_is_ascending b_is_ascending .nil pass0 (pa_cons (pe_lc (own := [("row", 3)]) (g := (gName 3)) (tt := tYes) rfl sc__are_rows.nd (pi_tup (pv 1)) (blkOk_by (N := N__are_rows) (sc := defScope s__are_rows) (by decide +kernel)) (fun _ _ _ _ _ => (pg_name (i := 3) sc__are_rows.nd rfl (Or.inl rfl))) (fun _ _ _ _ _ => pts_nil) (fun _ _ _ _ _ => (pe_ix ix_tup (pv 3) pe_int (fun _ _ => rfl)))) pa_nil)))))), ok_body (Z := ⟨K, κ⟩) (O := []) (js_seq (js_if (jb_not (jb_B (j_cb c_isi (ja_consW (JD.w (j_var nin)) (ja_cons j_ty ja_nil))))) (js_ret (JD.w j_bl)) js_next)
      (js_seq (js_for (ji_tup xS (j_var nin)) (jg_name nin nofun) (js_if (jb_or (jb_not (jb_B (j_callV via_id (ja_cons (j_var nin) (ja_cons (j_var nin) (ja_cons (j_var nin) ja_nil))) (len_cons (len_cons (len_cons (fun _ _ _ _ h => len_nil h))))))) (jb_test (j_op upD (r_inS (neg := true)) (j_op upD r_ixT (j_var nin) j_int) (JD.w (j_var nin))))) (js_ret (JD.w j_bl)) js_next))
      (js_ret (JD.w (j_callV via_id (ja_cons (j_lc (ji_tup xCo (j_var nin)) (jg_name nin (fun w e => by cases e; decide)) jb_yes (j_op upD r_ixT (j_var nin) j_int)) ja_nil) (len_cons (fun _ _ _ _ h => len_nil h))))))) (fun _ m => absurd m List.not_mem_nil) h⟩)
theorem ok__is_read {f : Addr} {fd : FuncData} (F : Fun K "_is_read" "_is_read" s__is_read f fd) (T : TxD2 mg) (GT_DEEDS : GTup K mg "DEEDS" a_DEEDS ["match", "order", "show"]) (GT_READ_SIDES : GTup K mg "READ_SIDES" a_READ_SIDES ["narrow", "wide", "either"]) (cL_is_ascendingT : Cal P w K mg base 1 "is_ascending" P_is_ascending (spD ⟨K, κ⟩ 1 L_is_ascendingT)) : FnOk P w K mg base CX0 2 f fd P__is_read (spD ⟨K, κ⟩ 1 L__is_read) := by
  obtain ⟨f_is_ascending, fd_is_ascending, G_is_ascending, b_is_ascending, g_is_ascending, k_is_ascending⟩ := cL_is_ascendingT
  exact F.ok sc__is_read (fun vs H Q E h => h.1) (fun cdv A outer s H vs Q E hr h => ⟨_, (pss_cons (ps_asg (pv 0) (pg_tup rfl (pgs_cons (pg_name (i := 1) sc__is_read.nd rfl (Or.inl rfl)) (pgs_cons (pg_name (i := 2) sc__is_read.nd rfl (Or.inl rfl)) (pgs_cons (pg_name (i := 3) sc__is_read.nd rfl (Or.inl rfl)) pgs_nil)))))
      (pss_cons (ps_if (PW.pt (pw_or (pt_cmpR (op_inS (neg := true) (Z := ⟨K, κ⟩) (hu70 hr) rfl) (pv 2) (pe_glob (v := .ref a_READ_SIDES) rfl GT_READ_SIDES.g rfl) rfl) (pw_or1 (pt_not (pt_val (pe_callB call_isi (by rfl) T.n_isinstance (by decide +kernel) (pa_cons (pv 3) (pa_cons (pe_bltn (v := .ty "tuple") (by rfl) T.n_tuple (by decide +kernel) rfl) pa_nil)))))))) (pss_one (ps_ret pe_bl)) pss_nil)
      (pss_one (ps_ret (pe_and (pe_callB (cr_all rfl) (by rfl) T.n_all (by decide +kernel) (pa_cons (pe_lc (own := [("deed", 4)]) (g := (gName 4)) (tt := tYes) rfl sc__is_read.nd (pi_tup (pv 3)) (blkOk_by (N := N__is_read) (sc := defScope s__is_read) (by decide +kernel)) (fun _ _ _ _ _ => (pg_name (i := 4) sc__is_read.nd rfl (Or.inl rfl))) (fun _ _ _ _ _ => pts_nil) (fun _ _ _ _ _ => (pe_cmpR (op_inS (neg := false) (Z := ⟨K, κ⟩) (hu70 hr) rfl) (pv 4) (pe_glob (v := .ref a_DEEDS) rfl GT_DEEDS.g rfl) rfl))) pa_nil)) (pe_one (pe_call G_is_ascending (hr.mono (by decide)) rfl g_is_ascending k_is_ascending b_is_ascending .nil pass0 (pa_cons (pv 3) pa_nil)))))))), ok_body (Z := ⟨K, κ⟩) (O := []) (js_seq (js_asg (j_var nin) (jg_tup (jg_cons (jg_name nin nofun) (jg_cons (jg_name nin nofun) (jg_cons (jg_name nin nofun) jg_nil)))))
      (js_seq (js_if (jb_or (jb_test (j_op upD (r_inS (neg := true)) (j_var nin) (JD.w (j_c GT_READ_SIDES.isD)))) (jb_not (jb_B (j_cb c_isi (ja_consW (JD.w (j_var nin)) (ja_cons j_ty ja_nil)))))) (js_ret (JD.w j_bl)) js_next)
      (js_ret (JD.w (j_andV (j_cb c_all (ja_consW (JD.w (j_lc (ji_tup xCo (j_var nin)) (jg_name nin (fun w e => by cases e; decide)) jb_yes (j_op upD (r_inS (neg := false)) (j_var nin) (JD.w (j_c GT_DEEDS.isD))))) ja_nil)) (j_callV via_id (ja_cons (j_var nin) ja_nil) (len_cons (fun _ _ _ _ h => len_nil h)))))))) (fun _ m => absurd m List.not_mem_nil) h⟩)
theorem ok__is_write {f : Addr} {fd : FuncData} (F : Fun K "_is_write" "_is_write" s__is_write f fd) (T : TxD2 mg) (GT_RULES : GTup K mg "RULES" a_RULES ["cut", "empty", "refuse"]) (GT_HOWS : GTup K mg "HOWS" a_HOWS ["narrow", "wide", "both", "narrow first", "wide first"]) (TN : TxN mg n_MOST_LETTERS n_MOST_STEPS n_LEAST_NUMBERS n_LEAST_NARROW n_MOST_PACE n_MOST_IN_TWO_EVENTS) (cL_is_between : Cal P w K mg base 2 "is_between" P_is_between (spD ⟨K, κ⟩ 3 L_is_between)) : FnOk P w K mg base CX0 3 f fd P__is_write (spD ⟨K, κ⟩ 2 L__is_write) := by
  obtain ⟨f_is_between, fd_is_between, G_is_between, b_is_between, g_is_between, k_is_between⟩ := cL_is_between
  exact F.ok sc__is_write (fun vs H Q E h => h.1) (fun cdv A outer s H vs Q E hr h => ⟨_, (pss_cons (ps_asg (pv 1) (pg_tup rfl (pgs_cons (pg_name (i := 2) sc__is_write.nd rfl (Or.inl rfl)) (pgs_cons (pg_name (i := 3) sc__is_write.nd rfl (Or.inl rfl)) (pgs_cons (pg_name (i := 4) sc__is_write.nd rfl (Or.inl rfl)) (pgs_cons (pg_name (i := 5) sc__is_write.nd rfl (Or.inl rfl)) (pgs_cons (pg_name (i := 6) sc__is_write.nd rfl (Or.inl rfl)) pgs_nil)))))))
      (pss_cons (ps_if (PW.pt (pw_or (pt_cmpR (op_inS (neg := true) (Z := ⟨K, κ⟩) (hu70 hr) rfl) (pv 3) (pe_glob (v := .ref a_HOWS) rfl GT_HOWS.g rfl) rfl) (pw_or (pt_cmpR (op_inS (neg := true) (Z := ⟨K, κ⟩) (hu70 hr) rfl) (pv 4) (pe_glob (v := .ref a_RULES) rfl GT_RULES.g rfl) rfl) (pw_or1 (pt_not (pt_val (pe_call G_is_between (hr.mono (by decide)) rfl g_is_between k_is_between b_is_between .nil pass0 (pa_cons (pv 6) (pa_cons pe_int (pa_cons (pe_glob (v := .int 99) rfl TN.g_MOST_PACE ⟨_, rfl⟩) pa_nil)))))))))) (pss_one (ps_ret pe_bl)) pss_nil)
      (pss_one (ps_ret (pe_or (pe_cmpR op_eq (pv 5) pe_str (nomark _)) (pe_one (pe_and (pe_cmpR (op_inS (neg := false) (Z := ⟨K, κ⟩) (hu70 hr) rfl) (pv 5) (pv 0) rfl) (pe_one (pe_cmpR op_ne (pv 5) (pv 2) (nomark _)))))))))), ok_body (Z := ⟨K, κ⟩) (O := []) (js_seq (js_asg (j_var nin) (jg_tup (jg_cons (jg_name nin nofun) (jg_cons (jg_name nin nofun) (jg_cons (jg_name nin nofun) (jg_cons (jg_name nin nofun) (jg_cons (jg_name nin nofun) jg_nil)))))))
      (js_seq (js_if (jb_or (jb_test (j_op upD (r_inS (neg := true)) (j_var nin) (JD.w (j_c GT_HOWS.isD)))) (jb_or (jb_test (j_op upD (r_inS (neg := true)) (j_var nin) (JD.w (j_c GT_RULES.isD)))) (jb_not (jb_B (j_callV via_id (ja_cons (j_var nin) (ja_cons j_int (ja_cons j_int ja_nil))) (len_cons (len_cons (len_cons (fun _ _ _ _ h => len_nil h))))))))) (js_ret (JD.w j_bl)) js_next)
      (js_ret (JD.w (j_orV (j_op upD r_eq (j_var nin) j_str) (j_andV (j_op upD (r_inS (neg := false)) (j_var nin) (JD.w (j_var nin))) (j_op upD r_ne (j_var nin) (j_var nin)))))))) (fun _ m => absurd m List.not_mem_nil) h⟩)
theorem ok__is_edition {f : Addr} {fd : FuncData} (F : Fun K "_is_edition" "_is_edition" s__is_edition f fd) (T : TxD2 mg) (GT_SIDES : GTup K mg "SIDES" a_SIDES ["narrow", "wide"]) (cL_is_tuple_of : Cal P w K mg base 1 "is_tuple_of" P_is_tuple_of (spD ⟨K, κ⟩ 3 L_is_tuple_of)) (cL__are_rows : Cal P w K mg base 2 "_are_rows" P__are_rows (spD ⟨K, κ⟩ 3 L__are_rows)) (cL__is_read : Cal P w K mg base 2 "_is_read" P__is_read (spD ⟨K, κ⟩ 1 L__is_read)) (cL__is_write : Cal P w K mg base 3 "_is_write" P__is_write (spD ⟨K, κ⟩ 2 L__is_write)) : FnOk P w K mg base CX0 4 f fd P__is_edition (spD ⟨K, κ⟩ 2 L__is_edition) := by
  obtain ⟨f_is_tuple_of, fd_is_tuple_of, G_is_tuple_of, b_is_tuple_of, g_is_tuple_of, k_is_tuple_of⟩ := cL_is_tuple_of
  obtain ⟨f__are_rows, fd__are_rows, G__are_rows, b__are_rows, g__are_rows, k__are_rows⟩ := cL__are_rows
  obtain ⟨f__is_read, fd__is_read, G__is_read, b__is_read, g__is_read, k__is_read⟩ := cL__is_read
  obtain ⟨f__is_write, fd__is_write, G__is_write, b__is_write, g__is_write, k__is_write⟩ := cL__is_write
  exact F.ok sc__is_edition (fun vs H Q E h => h.1) (fun cdv A outer s H vs Q E hr h => ⟨_, (pss_cons (ps_if (pt_not (pt_val (pe_call G_is_tuple_of (hr.mono (by decide)) rfl g_is_tuple_of k_is_tuple_of b_is_tuple_of .nil pass0 (pa_cons (pv 1) (pa_cons pe_int (pa_cons pe_int pa_nil)))))) (pss_one (ps_ret pe_bl)) pss_nil)
      (pss_cons (ps_asg (pv 1) (pg_tup rfl (pgs_cons (pg_name (i := 2) sc__is_edition.nd rfl (Or.inl rfl)) (pgs_cons (pg_name (i := 3) sc__is_edition.nd rfl (Or.inl rfl)) (pgs_cons (pg_name (i := 4) sc__is_edition.nd rfl (Or.inl rfl)) pgs_nil)))))
      (pss_cons (ps_if (PW.pt (pw_or (pt_cmpR (op_inS (neg := true) (Z := ⟨K, κ⟩) (hu70 hr) rfl) (pv 2) (pe_glob (v := .ref a_SIDES) rfl GT_SIDES.g rfl) rfl) (pw_or (pt_not (pt_val (pe_call G__are_rows (hr.mono (by decide)) rfl g__are_rows k__are_rows b__are_rows .nil pass0 (pa_cons (pv 0) (pa_cons (pv 3) (pa_cons pe_int pa_nil)))))) (pw_or1 (pt_not (pt_val (pe_call G__are_rows (hr.mono (by decide)) rfl g__are_rows k__are_rows b__are_rows .nil pass0 (pa_cons (pv 0) (pa_cons (pv 4) (pa_cons pe_int pa_nil)))))))))) (pss_one (ps_ret pe_bl)) pss_nil)
      (pss_cons (ps_if (pt_not (pt_val (pe_callB (cr_all rfl) (by rfl) T.n_all (by decide +kernel) (pa_cons (pe_lc (own := [("row", 6)]) (g := (gName 6)) (tt := tYes) rfl sc__is_edition.nd (pi_tup (pv 3)) (blkOk_by (N := N__is_edition) (sc := defScope s__is_edition) (by decide +kernel)) (fun _ _ _ _ _ => (pg_name (i := 6) sc__is_edition.nd rfl (Or.inl rfl))) (fun _ _ _ _ _ => pts_nil) (fun _ _ _ _ _ => (pe_call G__is_read (hr.mono (by decide)) rfl g__is_read k__is_read b__is_read .nil pass0 (pa_cons (pv 6) pa_nil)))) pa_nil)))) (pss_one (ps_ret pe_bl)) pss_nil)
      (pss_cons (ps_set (i := 5) sc__is_edition.nd rfl (Or.inr rfl) (pe_lc (own := [("row", 6)]) (g := (gName 6)) (tt := tYes) rfl sc__is_edition.nd (pi_tup (pv 3)) (blkOk_by (N := N__is_edition) (sc := defScope s__is_edition) (by decide +kernel)) (fun _ _ _ _ _ => (pg_name (i := 6) sc__is_edition.nd rfl (Or.inl rfl))) (fun _ _ _ _ _ => pts_nil) (fun _ _ _ _ _ => (pe_ix ix_tup (pv 6) pe_int (fun _ _ => rfl)))))
      (pss_one (ps_ret (pe_callB (cr_all rfl) (by rfl) T.n_all (by decide +kernel) (pa_cons (pe_lc (own := [("row", 6)]) (g := (gName 6)) (tt := tYes) rfl sc__is_edition.nd (pi_tup (pv 4)) (blkOk_by (N := N__is_edition) (sc := defScope s__is_edition) (by decide +kernel)) (fun _ _ _ _ _ => (pg_name (i := 6) sc__is_edition.nd rfl (Or.inl rfl))) (fun _ _ _ _ _ => pts_nil) (fun _ _ _ _ _ => (pe_call G__is_write (hr.mono (by decide)) rfl g__is_write k__is_write b__is_write .nil pass0 (pa_cons (pv 5) (pa_cons (pv 6) pa_nil))))) pa_nil))))))))), ok_body (Z := ⟨K, κ⟩) (O := []) (js_seq (js_if (jb_not (jb_B (j_callV via_id (ja_cons (j_var nin) (ja_cons j_int (ja_cons j_int ja_nil))) (len_cons (len_cons (len_cons (fun _ _ _ _ h => len_nil h))))))) (js_ret (JD.w j_bl)) js_next)
      (js_seq (js_asg (j_var nin) (jg_tup (jg_cons (jg_name nin nofun) (jg_cons (jg_name nin nofun) (jg_cons (jg_name nin nofun) jg_nil)))))
      (js_seq (js_if (jb_or (jb_test (j_op upD (r_inS (neg := true)) (j_var nin) (JD.w (j_c GT_SIDES.isD)))) (jb_or (jb_not (jb_B (j_callV via_id (ja_cons (j_var nin) (ja_cons (j_var nin) (ja_cons j_int ja_nil))) (len_cons (len_cons (len_cons (fun _ _ _ _ h => len_nil h))))))) (jb_not (jb_B (j_callV via_id (ja_cons (j_var nin) (ja_cons (j_var nin) (ja_cons j_int ja_nil))) (len_cons (len_cons (len_cons (fun _ _ _ _ h => len_nil h))))))))) (js_ret (JD.w j_bl)) js_next)
      (js_seq (js_if (jb_not (jb_B (j_cb c_all (ja_consW (JD.w (j_lc (ji_tup xCo (j_var nin)) (jg_name nin (fun w e => by cases e; decide)) jb_yes (j_callV via_id (ja_cons (j_var nin) ja_nil) (len_cons (fun _ _ _ _ h => len_nil h))))) ja_nil)))) (js_ret (JD.w j_bl)) js_next)
      (js_seq (js_asg (j_lc (ji_tup xCo (j_var nin)) (jg_name nin (fun w e => by cases e; decide)) jb_yes (j_op upD r_ixT (j_var nin) j_int)) (jg_name nin nofun))
      (js_ret (JD.w (j_cb c_all (ja_consW (JD.w (j_lc (ji_tup xCo (j_var nin)) (jg_name nin (fun w e => by cases e; decide)) jb_yes (j_callV via_id (ja_cons (j_var nin) (ja_cons (j_var nin) ja_nil)) (len_cons (len_cons (fun _ _ _ _ h => len_nil h)))))) ja_nil))))))))) (fun _ m => absurd m List.not_mem_nil) h⟩)
theorem ok__is_first_edition {f : Addr} {fd : FuncData} (F : Fun K "_is_first_edition" "_is_first_edition" s__is_first_edition f fd) (T : TxD2 mg) : FnOk P w K mg base CX0 1 f fd P__is_first_edition (spD ⟨K, κ⟩ 1 L__is_first_edition) := by
  exact F.ok sc__is_first_edition (fun vs H Q E h => h.1) (fun cdv A outer s H vs Q E hr h => ⟨_, (pss_cons (ps_asg (pv 0) (pg_tup rfl (pgs_cons (pg_name (i := 1) sc__is_first_edition.nd rfl (Or.inl rfl)) (pgs_cons (pg_name (i := 2) sc__is_first_edition.nd rfl (Or.inl rfl)) (pgs_cons (pg_name (i := 3) sc__is_first_edition.nd rfl (Or.inl rfl)) pgs_nil)))))
      (pss_cons (ps_if (pt_not (pt_val (pe_callB (cr_all rfl) (by rfl) T.n_all (by decide +kernel) (pa_cons (pe_lc (own := [("row", 4)]) (g := (gName 4)) (tt := tYes) rfl sc__is_first_edition.nd (pi_tup (pv 2)) (blkOk_by (N := N__is_first_edition) (sc := defScope s__is_first_edition) (by decide +kernel)) (fun _ _ _ _ _ => (pg_name (i := 4) sc__is_first_edition.nd rfl (Or.inl rfl))) (fun _ _ _ _ _ => pts_nil) (fun _ _ _ _ _ => (pe_cmpR (op_inS (neg := false) (Z := ⟨K, κ⟩) (hu70 hr) rfl) (pe_ix ix_tup (pv 4) pe_int (fun _ _ => rfl)) (pe_tup (pa_cons pe_str (pa_cons pe_str pa_nil))) rfl))) pa_nil)))) (pss_one (ps_ret pe_bl)) pss_nil)
      (pss_one (ps_ret (pe_callB (cr_all rfl) (by rfl) T.n_all (by decide +kernel) (pa_cons (pe_lc (own := [("row", 4)]) (g := (gName 4)) (tt := tYes) rfl sc__is_first_edition.nd (pi_tup (pv 3)) (blkOk_by (N := N__is_first_edition) (sc := defScope s__is_first_edition) (by decide +kernel)) (fun _ _ _ _ _ => (pg_name (i := 4) sc__is_first_edition.nd rfl (Or.inl rfl))) (fun _ _ _ _ _ => pts_nil) (fun _ _ _ _ _ => (pe_cmpR op_eq (pe_ix ix_tup (pv 4) pe_int (fun _ _ => rfl)) pe_str (nomark _)))) pa_nil)))))), ok_body (Z := ⟨K, κ⟩) (O := []) (js_seq (js_asg (j_var nin) (jg_tup (jg_cons (jg_name nin nofun) (jg_cons (jg_name nin nofun) (jg_cons (jg_name nin nofun) jg_nil)))))
      (js_seq (js_if (jb_not (jb_B (j_cb c_all (ja_consW (JD.w (j_lc (ji_tup xCo (j_var nin)) (jg_name nin (fun w e => by cases e; decide)) jb_yes (j_op upD (r_inS (neg := false)) (j_op upD r_ixT (j_var nin) j_int) (JD.w (j_tup (ja_cons j_str (ja_cons j_str ja_nil))))))) ja_nil)))) (js_ret (JD.w j_bl)) js_next)
      (js_ret (JD.w (j_cb c_all (ja_consW (JD.w (j_lc (ji_tup xCo (j_var nin)) (jg_name nin (fun w e => by cases e; decide)) jb_yes (j_op upD r_eq (j_op upD r_ixT (j_var nin) j_int) j_str))) ja_nil)))))) (fun _ m => absurd m List.not_mem_nil) h⟩)
theorem ok__is_program {f : Addr} {fd : FuncData} (F : Fun K "_is_program" "_is_program" s__is_program f fd) (T : TxD2 mg) (cL_is_tuple_of : Cal P w K mg base 1 "is_tuple_of" P_is_tuple_of (spD ⟨K, κ⟩ 3 L_is_tuple_of)) (cL_is_name : Cal P w K mg base 1 "is_name" P_is_name (spD ⟨K, κ⟩ 1 L_is_name)) (cL__is_edition : Cal P w K mg base 4 "_is_edition" P__is_edition (spD ⟨K, κ⟩ 2 L__is_edition)) (cL__is_first_edition : Cal P w K mg base 1 "_is_first_edition" P__is_first_edition (spD ⟨K, κ⟩ 1 L__is_first_edition)) : FnOk P w K mg base CX0 5 f fd P__is_program (spD ⟨K, κ⟩ 2 L__is_program) := by
  obtain ⟨f_is_tuple_of, fd_is_tuple_of, G_is_tuple_of, b_is_tuple_of, g_is_tuple_of, k_is_tuple_of⟩ := cL_is_tuple_of
  obtain ⟨f_is_name, fd_is_name, G_is_name, b_is_name, g_is_name, k_is_name⟩ := cL_is_name
  obtain ⟨f__is_edition, fd__is_edition, G__is_edition, b__is_edition, g__is_edition, k__is_edition⟩ := cL__is_edition
  obtain ⟨f__is_first_edition, fd__is_first_edition, G__is_first_edition, b__is_first_edition, g__is_first_edition, k__is_first_edition⟩ := cL__is_first_edition
  exact F.ok sc__is_program (fun vs H Q E h => h.1) (fun cdv A outer s H vs Q E hr h => ⟨_, (pss_cons (ps_if (pt_not (pt_val (pe_call G_is_tuple_of (hr.mono (by decide)) rfl g_is_tuple_of k_is_tuple_of b_is_tuple_of .nil pass0 (pa_cons (pv 1) (pa_cons pe_int (pa_cons pe_int pa_nil)))))) (pss_one (ps_ret pe_bl)) pss_nil)
      (pss_cons (ps_asg (pv 1) (pg_tup rfl (pgs_cons (pg_name (i := 2) sc__is_program.nd rfl (Or.inl rfl)) (pgs_cons (pg_name (i := 3) sc__is_program.nd rfl (Or.inl rfl)) pgs_nil))))
      (pss_cons (ps_if (PW.pt (pw_or (pt_not (pt_val (pe_call G_is_name (hr.mono (by decide)) rfl g_is_name k_is_name b_is_name .nil pass0 (pa_cons (pv 2) pa_nil)))) (pw_or1 (pt_not (pt_val (pe_call G_is_tuple_of (hr.mono (by decide)) rfl g_is_tuple_of k_is_tuple_of b_is_tuple_of .nil pass0 (pa_cons (pv 3) (pa_cons pe_int (pa_cons pe_int pa_nil))))))))) (pss_one (ps_ret pe_bl)) pss_nil)
      (pss_cons (ps_if (pt_not (pt_val (pe_callB (cr_all rfl) (by rfl) T.n_all (by decide +kernel) (pa_cons (pe_lc (own := [("edition", 4)]) (g := (gName 4)) (tt := tYes) rfl sc__is_program.nd (pi_tup (pv 3)) (blkOk_by (N := N__is_program) (sc := defScope s__is_program) (by decide +kernel)) (fun _ _ _ _ _ => (pg_name (i := 4) sc__is_program.nd rfl (Or.inl rfl))) (fun _ _ _ _ _ => pts_nil) (fun _ _ _ _ _ => (pe_call G__is_edition (hr.mono (by decide)) rfl g__is_edition k__is_edition b__is_edition .nil pass0 (pa_cons (pv 0) (pa_cons (pv 4) pa_nil))))) pa_nil)))) (pss_one (ps_ret pe_bl)) pss_nil)
      (pss_one (ps_ret (pe_call G__is_first_edition (hr.mono (by decide)) rfl g__is_first_edition k__is_first_edition b__is_first_edition .nil pass0 (pa_cons (pe_ix ix_tup (pv 3) pe_int (fun _ _ => rfl)) pa_nil)))))))), ok_body (Z := ⟨K, κ⟩) (O := []) (js_seq (js_if (jb_not (jb_B (j_callV via_id (ja_cons (j_var nin) (ja_cons j_int (ja_cons j_int ja_nil))) (len_cons (len_cons (len_cons (fun _ _ _ _ h => len_nil h))))))) (js_ret (JD.w j_bl)) js_next)
      (js_seq (js_asg (j_var nin) (jg_tup (jg_cons (jg_name nin nofun) (jg_cons (jg_name nin nofun) jg_nil))))
      (js_seq (js_if (jb_or (jb_not (jb_B (j_callV via_id (ja_cons (j_var nin) ja_nil) (len_cons (fun _ _ _ _ h => len_nil h))))) (jb_not (jb_B (j_callV via_id (ja_cons (j_var nin) (ja_cons j_int (ja_cons j_int ja_nil))) (len_cons (len_cons (len_cons (fun _ _ _ _ h => len_nil h)))))))) (js_ret (JD.w j_bl)) js_next)
      (js_seq (js_if (jb_not (jb_B (j_cb c_all (ja_consW (JD.w (j_lc (ji_tup xCo (j_var nin)) (jg_name nin (fun w e => by cases e; decide)) jb_yes (j_callV via_id (ja_cons (j_var nin) (ja_cons (j_var nin) ja_nil)) (len_cons (len_cons (fun _ _ _ _ h => len_nil h)))))) ja_nil)))) (js_ret (JD.w j_bl)) js_next)
      (js_ret (JD.w (j_callV via_id (ja_cons (j_op upD r_ixT (j_var nin) j_int) ja_nil) (len_cons (fun _ _ _ _ h => len_nil h))))))))) (fun _ m => absurd m List.not_mem_nil) h⟩)
theorem ok__many_in_two_events {f : Addr} {fd : FuncData} (F : Fun K "_many_in_two_events" "_many_in_two_events" s__many_in_two_events f fd) (T : TxD2 mg) (GT_IN_TWO_EVENTS : GTup K mg "IN_TWO_EVENTS" a_IN_TWO_EVENTS ["narrow first", "wide first"]) : FnOk P w K mg base CX0 1 f fd P__many_in_two_events (spD ⟨K, κ⟩ 1 L__many_in_two_events) := by
  exact F.ok sc__many_in_two_events (fun vs H Q E h => h.1) (fun cdv A outer s H vs Q E hr h => ⟨_, (pss_cons (ps_set (i := 1) sc__many_in_two_events.nd rfl (Or.inl rfl) pe_int)
      (pss_cons (ps_for PassesOwn.never rfl (pi_tup (pv 0)) (pg_tup rfl (pgs_cons (pg_name (i := 2) sc__many_in_two_events.nd rfl (Or.inl rfl)) (pgs_cons (pg_name (i := 3) sc__many_in_two_events.nd rfl (Or.inl rfl)) pgs_nil))) (pss_one (ps_for PassesOwn.never rfl (pi_tup (pv 3)) (pg_tup rfl (pgs_cons (pg_name (i := 2) sc__many_in_two_events.nd rfl (Or.inl rfl)) (pgs_cons (pg_name (i := 2) sc__many_in_two_events.nd rfl (Or.inl rfl)) (pgs_cons (pg_name (i := 4) sc__many_in_two_events.nd rfl (Or.inl rfl)) pgs_nil)))) (pss_one (ps_set (i := 1) sc__many_in_two_events.nd rfl (Or.inl rfl) (pe_op op_add (pv 1) (pe_callB call_len_seq (by rfl) T.n_len (by decide +kernel) (pa_cons (pe_lc (own := [("row", 5)]) (g := (gName 5))  rfl sc__many_in_two_events.nd (pi_tup (pv 4)) (blkOk_by (N := N__many_in_two_events) (sc := defScope s__many_in_two_events) (by decide +kernel)) (fun _ _ _ _ _ => (pg_name (i := 5) sc__many_in_two_events.nd rfl (Or.inl rfl))) (fun _ _ _ _ _ => (pts_one (pt_cmpR (op_inS (neg := false) (Z := ⟨K, κ⟩) (hu70 hr) rfl) (pe_ix ix_tup (pv 5) pe_int (fun _ _ => rfl)) (pe_glob (v := .ref a_IN_TWO_EVENTS) rfl GT_IN_TWO_EVENTS.g rfl) rfl))) (fun _ _ _ _ _ => (pv 5))) pa_nil))))))))
      (pss_one (ps_ret (pv 1))))), ok_body (Z := ⟨K, κ⟩) (O := []) (js_seq (js_asg j_int (jg_name nin nofun))
      (js_seq (js_for (ji_tup xS (j_var nin)) (jg_tup (jg_cons (jg_name nin nofun) (jg_cons (jg_name nin nofun) jg_nil))) (js_for (ji_tup xS (j_var nin)) (jg_tup (jg_cons (jg_name nin nofun) (jg_cons (jg_name nin nofun) (jg_cons (jg_name nin nofun) jg_nil)))) (js_asg (j_op upD r_add (j_var nin) (j_cb c_len (ja_consW (JD.w (j_lc (ji_tup xCo (j_var nin)) (jg_name nin (fun w e => by cases e; decide)) (jb_test (j_op upD (r_inS (neg := false)) (j_op upD r_ixT (j_var nin) j_int) (JD.w (j_c GT_IN_TWO_EVENTS.isD)))) (j_var nin))) ja_nil))) (jg_name nin nofun))))
      (js_ret (JD.w (j_var nin))))) (fun _ m => absurd m List.not_mem_nil) h⟩)
theorem ok__are_programs {f : Addr} {fd : FuncData} (F : Fun K "_are_programs" "_are_programs" s__are_programs f fd) (T : TxD2 mg) (TN : TxN mg n_MOST_LETTERS n_MOST_STEPS n_LEAST_NUMBERS n_LEAST_NARROW n_MOST_PACE n_MOST_IN_TWO_EVENTS) (cL_is_tuple_of : Cal P w K mg base 1 "is_tuple_of" P_is_tuple_of (spD ⟨K, κ⟩ 3 L_is_tuple_of)) (cL__is_program : Cal P w K mg base 5 "_is_program" P__is_program (spD ⟨K, κ⟩ 2 L__is_program)) (cL_is_ascending : Cal P w K mg base 1 "is_ascending" P_is_ascending (spD ⟨K, κ⟩ 1 L_is_ascending)) (cL__many_in_two_events : Cal P w K mg base 1 "_many_in_two_events" P__many_in_two_events (spD ⟨K, κ⟩ 1 L__many_in_two_events)) : FnOk P w K mg base CX0 6 f fd P__are_programs (spD ⟨K, κ⟩ 2 L__are_programs) := by
  obtain ⟨f_is_tuple_of, fd_is_tuple_of, G_is_tuple_of, b_is_tuple_of, g_is_tuple_of, k_is_tuple_of⟩ := cL_is_tuple_of
  obtain ⟨f__is_program, fd__is_program, G__is_program, b__is_program, g__is_program, k__is_program⟩ := cL__is_program
  obtain ⟨f_is_ascending, fd_is_ascending, G_is_ascending, b_is_ascending, g_is_ascending, k_is_ascending⟩ := cL_is_ascending
  obtain ⟨f__many_in_two_events, fd__many_in_two_events, G__many_in_two_events, b__many_in_two_events, g__many_in_two_events, k__many_in_two_events⟩ := cL__many_in_two_events
  exact F.ok sc__are_programs (fun vs H Q E h => h.1) (fun cdv A outer s H vs Q E hr h => ⟨_, (pss_cons (ps_if (pt_not (pt_val (pe_call G_is_tuple_of (hr.mono (by decide)) rfl g_is_tuple_of k_is_tuple_of b_is_tuple_of .nil pass0 (pa_cons (pv 1) (pa_cons pe_int (pa_cons pe_int pa_nil)))))) (pss_one (ps_ret pe_bl)) pss_nil)
      (pss_cons (ps_if (pt_not (pt_val (pe_callB (cr_all rfl) (by rfl) T.n_all (by decide +kernel) (pa_cons (pe_lc (own := [("program", 2)]) (g := (gName 2)) (tt := tYes) rfl sc__are_programs.nd (pi_tup (pv 1)) (blkOk_by (N := N__are_programs) (sc := defScope s__are_programs) (by decide +kernel)) (fun _ _ _ _ _ => (pg_name (i := 2) sc__are_programs.nd rfl (Or.inl rfl))) (fun _ _ _ _ _ => pts_nil) (fun _ _ _ _ _ => (pe_call G__is_program (hr.mono (by decide)) rfl g__is_program k__is_program b__is_program .nil pass0 (pa_cons (pv 0) (pa_cons (pv 2) pa_nil))))) pa_nil)))) (pss_one (ps_ret pe_bl)) pss_nil)
      (pss_cons (ps_if (pt_not (pt_val (pe_call G_is_ascending (hr.mono (by decide)) rfl g_is_ascending k_is_ascending b_is_ascending .nil pass0 (pa_cons (pe_lc (own := [("name", 3), ("_", 4)]) (g := (gTup _ 2 (gCons (gName 3) (gCons (gName 4) gNil)))) (tt := tYes) rfl sc__are_programs.nd (pi_tup (pv 1)) (blkOk_by (N := N__are_programs) (sc := defScope s__are_programs) (by decide +kernel)) (fun _ _ _ _ _ => (pg_tup rfl (pgs_cons (pg_name (i := 3) sc__are_programs.nd rfl (Or.inl rfl)) (pgs_cons (pg_name (i := 4) sc__are_programs.nd rfl (Or.inl rfl)) pgs_nil)))) (fun _ _ _ _ _ => pts_nil) (fun _ _ _ _ _ => (pv 3))) pa_nil)))) (pss_one (ps_ret pe_bl)) pss_nil)
      (pss_one (ps_ret (pe_cmpR op_le (pe_call G__many_in_two_events (hr.mono (by decide)) rfl g__many_in_two_events k__many_in_two_events b__many_in_two_events .nil pass0 (pa_cons (pv 1) pa_nil)) (pe_glob (v := .int 2) rfl TN.g_MOST_IN_TWO_EVENTS ⟨_, rfl⟩) (nomark _))))))), ok_body (Z := ⟨K, κ⟩) (O := []) (js_seq (js_if (jb_not (jb_B (j_callV via_id (ja_cons (j_var nin) (ja_cons j_int (ja_cons j_int ja_nil))) (len_cons (len_cons (len_cons (fun _ _ _ _ h => len_nil h))))))) (js_ret (JD.w j_bl)) js_next)
      (js_seq (js_if (jb_not (jb_B (j_cb c_all (ja_consW (JD.w (j_lc (ji_tup xCo (j_var nin)) (jg_name nin (fun w e => by cases e; decide)) jb_yes (j_callV via_id (ja_cons (j_var nin) (ja_cons (j_var nin) ja_nil)) (len_cons (len_cons (fun _ _ _ _ h => len_nil h)))))) ja_nil)))) (js_ret (JD.w j_bl)) js_next)
      (js_seq (js_if (jb_not (jb_B (j_callV via_id (ja_cons (j_lc (ji_tup xCo (j_var nin)) (jg_tup (jg_cons (jg_name nin (fun w e => by cases e; decide)) (jg_cons (jg_name nin (fun w e => by cases e; decide)) jg_nil))) jb_yes (j_var nin)) ja_nil) (len_cons (fun _ _ _ _ h => len_nil h))))) (js_ret (JD.w j_bl)) js_next)
      (js_ret (JD.w (j_op upD r_le (j_callV via_id (ja_cons (j_var nin) ja_nil) (len_cons (fun _ _ _ _ h => len_nil h))) j_int)))))) (fun _ m => absurd m List.not_mem_nil) h⟩)
theorem ok_World___init__ {f : Addr} {fd : FuncData} (F : Fun K "__init__" "World.__init__" s_World___init__ f fd) (T : TxD2 mg) (cL__are_kinds : Cal P w K mg base 3 "_are_kinds" P__are_kinds (spD ⟨K, κ⟩ 2 L__are_kinds)) (cL__are_columns : Cal P w K mg base 2 "_are_columns" P__are_columns (spD ⟨K, κ⟩ 1 L__are_columns)) (cL__are_programs : Cal P w K mg base 6 "_are_programs" P__are_programs (spD ⟨K, κ⟩ 2 L__are_programs)) (CT_World : ClsI K mg ⟨K, κ⟩ "World" "World" ["narrow", "wide", "columns", "programs"]) : FnOk P w K mg base CX0 7 f fd P_World___init__ (spD ⟨K, κ⟩ 5 L_World___init__) := by
  obtain ⟨f__are_kinds, fd__are_kinds, G__are_kinds, b__are_kinds, g__are_kinds, k__are_kinds⟩ := cL__are_kinds
  obtain ⟨f__are_columns, fd__are_columns, G__are_columns, b__are_columns, g__are_columns, k__are_columns⟩ := cL__are_columns
  obtain ⟨f__are_programs, fd__are_programs, G__are_programs, b__are_programs, g__are_programs, k__are_programs⟩ := cL__are_programs
  exact F.ok sc_World___init__ (fun vs H Q E h => h.1) (fun cdv A outer s H vs Q E hr h => ⟨_, (pss_cons (ps_set (i := 5) sc_World___init__.nd rfl (Or.inl rfl) (pe_and (pe_call G__are_kinds (hr.mono (by decide)) rfl g__are_kinds k__are_kinds b__are_kinds .nil pass0 (pa_cons (pv 1) (pa_cons (pv 2) pa_nil))) (pe_and (pe_call G__are_columns (hr.mono (by decide)) rfl g__are_columns k__are_columns b__are_columns .nil pass0 (pa_cons (pv 3) pa_nil)) (pe_one (pe_call G__are_programs (hr.mono (by decide)) rfl g__are_programs k__are_programs b__are_programs .nil pass0 (pa_cons (pv 3) (pa_cons (pv 4) pa_nil)))))))
      (pss_cons (ps_if (pt_not (pt_val (pv 5))) (pss_one ps_never) pss_nil)
      (pss_cons (ps_fld (pv 0) (pv 1) rfl)
      (pss_cons (ps_fld (pv 0) (pv 2) rfl)
      (pss_cons (ps_fld (pv 0) (pv 3) rfl)
      (pss_one (ps_fld (pv 0) (pv 4) rfl))))))), ok_body (Z := ⟨K, κ⟩) (O := []) (js_seq (js_asg (j_andV (j_callV via_id (ja_cons (j_var nin) (ja_cons (j_var nin) ja_nil)) (len_cons (len_cons (fun _ _ _ _ h => len_nil h)))) (j_andV (j_callV via_id (ja_cons (j_var nin) ja_nil) (len_cons (fun _ _ _ _ h => len_nil h))) (j_callV via_id (ja_cons (j_var nin) (ja_cons (j_var nin) ja_nil)) (len_cons (len_cons (fun _ _ _ _ h => len_nil h)))))) (jg_name nin nofun))
      (js_seq (js_if (jb_not (jb_B (j_var nin))) js_never js_next)
      (js_seq (js_setFL CT_World.t (.head _) (j_var nin) (j_var nin))
      (js_seq (js_setFL CT_World.t (.tail _ (.head _)) (j_var nin) (j_var nin))
      (js_seq (js_setFL CT_World.t (.tail _ (.tail _ (.head _))) (j_var nin) (j_var nin))
      (js_setFL CT_World.t (.tail _ (.tail _ (.tail _ (.head _)))) (j_var nin) (j_var nin))))))) (fun _ m => absurd m List.not_mem_nil) h⟩)
theorem ok_Setup___init__ {f : Addr} {fd : FuncData} (F : Fun K "__init__" "Setup.__init__" s_Setup___init__ f fd) (T : TxD2 mg) (CT_Setup : ClsI K mg ⟨K, κ⟩ "Setup" "Setup" ["world", "editions", "sides", "ups", "downs", "going", "span", "lasts"]) (CT_World : ClsI K mg ⟨K, κ⟩ "World" "World" ["narrow", "wide", "columns", "programs"]) : FnOk P w K mg base CX0 1 f fd P_Setup___init__ (spD ⟨K, κ⟩ 3 L_Setup___init__) := by
  exact F.ok sc_Setup___init__ (fun vs H Q E h => h.1) (fun cdv A outer s H vs Q E hr h => ⟨_, (pss_cons (ps_fld (pv 0) (pv 1) rfl)
      (pss_cons (ps_fld (pv 0) (pe_dc (own := [("name", 3), ("_", 4)]) (g := (gTup _ 2 (gCons (gName 3) (gCons (gName 4) gNil)))) (tt := tYes) rfl sc_Setup___init__.nd (pi_tup (pe_fld (pv 1) rfl)) (blkOk_by (N := N_Setup___init__) (sc := defScope s_Setup___init__) (by decide +kernel)) (fun _ _ _ _ _ => (pg_tup rfl (pgs_cons (pg_name (i := 3) sc_Setup___init__.nd rfl (Or.inl rfl)) (pgs_cons (pg_name (i := 4) sc_Setup___init__.nd rfl (Or.inl rfl)) pgs_nil)))) (fun _ _ _ _ _ => pts_nil) (fun _ _ _ _ _ => (pv 3)) (fun _ _ _ _ _ => pe_int)) rfl)
      (pss_cons (ps_fld (pv 0) (pe_dc (own := [("column", 5)]) (g := (gName 5)) (tt := tYes) rfl sc_Setup___init__.nd (pi_tup (pe_fld (pv 1) rfl)) (blkOk_by (N := N_Setup___init__) (sc := defScope s_Setup___init__) (by decide +kernel)) (fun _ _ _ _ _ => (pg_name (i := 5) sc_Setup___init__.nd rfl (Or.inl rfl))) (fun _ _ _ _ _ => pts_nil) (fun _ _ _ _ _ => (pv 5)) (fun _ _ _ _ _ => pe_str)) rfl)
      (pss_cons (ps_fld (pv 0) pe_dnewK rfl)
      (pss_cons (ps_fld (pv 0) pe_dnewK rfl)
      (pss_cons (ps_fld (pv 0) (pe_tup pa_nil) rfl)
      (pss_cons (ps_fld (pv 0) (pv 2) rfl)
      (pss_one (ps_fld (pv 0) (pe_lst (pa_cons (pe_ix ix_tup (pv 2) pe_int (fun _ _ => rfl)) pa_nil)) rfl))))))))), ok_body (Z := ⟨K, κ⟩) (O := []) (js_seq (js_setFL CT_Setup.t (.head _) (j_var nin) (j_var nin))
      (js_seq (js_setFL CT_Setup.t (.tail _ (.head _)) (j_var nin) (j_newLo (jf_dc (ji_tup xCo (j_fldI CT_World.t (.tail _ (.tail _ (.tail _ (.head _)))) (j_var nin))) (jg_tup (jg_cons (jg_name nin (fun w e => by cases e; decide)) (jg_cons (jg_name nin (fun w e => by cases e; decide)) jg_nil))) jb_yes (j_var nin) j_int)))
      (js_seq (js_setFL CT_Setup.t (.tail _ (.tail _ (.head _))) (j_var nin) (j_newLo (jf_dc (ji_tup xCo (j_fldI CT_World.t (.tail _ (.tail _ (.head _))) (j_var nin))) (jg_name nin (fun w e => by cases e; decide)) jb_yes (j_var nin) j_str)))
      (js_seq (js_setFL CT_Setup.t (.tail _ (.tail _ (.tail _ (.head _)))) (j_var nin) (j_newLo jf_dic0))
      (js_seq (js_setFL CT_Setup.t (.tail _ (.tail _ (.tail _ (.tail _ (.head _))))) (j_var nin) (j_newLo jf_dic0))
      (js_seq (js_setFL CT_Setup.t (.tail _ (.tail _ (.tail _ (.tail _ (.tail _ (.head _)))))) (j_var nin) (j_tup ja_nil))
      (js_seq (js_setFL CT_Setup.t (.tail _ (.tail _ (.tail _ (.tail _ (.tail _ (.tail _ (.head _))))))) (j_var nin) (j_var nin))
      (js_setFL CT_Setup.t (.tail _ (.tail _ (.tail _ (.tail _ (.tail _ (.tail _ (.tail _ (.head _)))))))) (j_var nin) (j_newLo (jf_lst (ja_cons (j_op upD r_ixT (j_var nin) j_int) ja_nil))))))))))) (fun _ m => absurd m List.not_mem_nil) h⟩)
theorem ok__twin {f : Addr} {fd : FuncData} (F : Fun K "_twin" "_twin" s__twin f fd) (T : TxD2 mg) (cL_Setup___init__ : MkI P w K mg base ⟨K, κ⟩ 1 "Setup" "Setup" P_Setup___init__ (spD ⟨K, κ⟩ 3 L_Setup___init__)) (CT_Setup : ClsI K mg ⟨K, κ⟩ "Setup" "Setup" ["world", "editions", "sides", "ups", "downs", "going", "span", "lasts"]) : FnOk P w K mg base CX0 3 f fd P__twin (spD ⟨K, κ⟩ 1 L__twin) := by
  obtain ⟨f_Setup, fd_Setup, MK_Setup, G_Setup, b_Setup, g_Setup⟩ := cL_Setup___init__
  exact F.ok sc__twin (fun vs H Q E h => h.1) (fun cdv A outer s H vs Q E hr h => ⟨_, (pss_cons (ps_set (i := 1) sc__twin.nd rfl (Or.inl rfl) (pe_make MK_Setup G_Setup (hr.mono (by decide)) rfl g_Setup b_Setup .nil pass0 (pa_cons (pe_fld (pv 0) rfl) (pa_cons (pe_fld (pv 0) rfl) pa_nil))))
      (pss_cons (ps_fld (pv 1) (pe_callTy call_dictD (by rfl) T.n_dict (by decide +kernel) (pa_cons (pe_fld (pv 0) rfl) pa_nil)) rfl)
      (pss_cons (ps_fld (pv 1) (pe_callTy call_dictD (by rfl) T.n_dict (by decide +kernel) (pa_cons (pe_fld (pv 0) rfl) pa_nil)) rfl)
      (pss_cons (ps_fld (pv 1) (pe_callTy call_dictD (by rfl) T.n_dict (by decide +kernel) (pa_cons (pe_fld (pv 0) rfl) pa_nil)) rfl)
      (pss_cons (ps_fld (pv 1) (pe_callTy call_dictD (by rfl) T.n_dict (by decide +kernel) (pa_cons (pe_fld (pv 0) rfl) pa_nil)) rfl)
      (pss_cons (ps_fld (pv 1) (pe_callTy call_list_of (by rfl) T.n_list (by decide +kernel) (pa_cons (pe_fld (pv 0) rfl) pa_nil)) rfl)
      (pss_one (ps_ret (pv 1))))))))), ok_body (Z := ⟨K, κ⟩) (O := []) (js_seq (js_asg (j_makeV mk_id (ja_cons (j_fldI CT_Setup.t (.head _) (j_var nin)) (ja_cons (j_fldI CT_Setup.t (.tail _ (.tail _ (.tail _ (.tail _ (.tail _ (.tail _ (.head _))))))) (j_var nin)) ja_nil)) (len_cons (len_cons (fun _ _ _ _ h => len_nil h)))) (jg_name nin nofun))
      (js_seq (js_setFL CT_Setup.t (.tail _ (.head _)) (j_var nin) (j_newLo (jf_dictOf (ja_cons (j_fldI CT_Setup.t (.tail _ (.head _)) (j_var nin)) ja_nil))))
      (js_seq (js_setFL CT_Setup.t (.tail _ (.tail _ (.head _))) (j_var nin) (j_newLo (jf_dictOf (ja_cons (j_fldI CT_Setup.t (.tail _ (.tail _ (.head _))) (j_var nin)) ja_nil))))
      (js_seq (js_setFL CT_Setup.t (.tail _ (.tail _ (.tail _ (.head _)))) (j_var nin) (j_newLo (jf_dictOf (ja_cons (j_fldI CT_Setup.t (.tail _ (.tail _ (.tail _ (.head _)))) (j_var nin)) ja_nil))))
      (js_seq (js_setFL CT_Setup.t (.tail _ (.tail _ (.tail _ (.tail _ (.head _))))) (j_var nin) (j_newLo (jf_dictOf (ja_cons (j_fldI CT_Setup.t (.tail _ (.tail _ (.tail _ (.tail _ (.head _))))) (j_var nin)) ja_nil))))
      (js_seq (js_setFL CT_Setup.t (.tail _ (.tail _ (.tail _ (.tail _ (.tail _ (.tail _ (.tail _ (.head _)))))))) (j_var nin) (j_newLo (jf_list (ja_cons (j_fldI CT_Setup.t (.tail _ (.tail _ (.tail _ (.tail _ (.tail _ (.tail _ (.tail _ (.head _)))))))) (j_var nin)) ja_nil))))
      (js_ret (JD.w (j_var nin))))))))) (fun _ m => absurd m List.not_mem_nil) h⟩)
theorem ok__running {f : Addr} {fd : FuncData} (F : Fun K "_running" "_running" s__running f fd) (T : TxD2 mg) (CT_Setup : ClsI K mg ⟨K, κ⟩ "Setup" "Setup" ["world", "editions", "sides", "ups", "downs", "going", "span", "lasts"]) : FnOk P w K mg base CX0 1 f fd P__running (spD ⟨K, κ⟩ 2 L__running) := by
  exact F.ok sc__running (fun vs H Q E h => h.1) (fun cdv A outer s H vs Q E hr h => ⟨_, (pss_cons (ps_set (i := 2) sc__running.nd rfl (Or.inl rfl) (pe_dget (lt_units hr.units) (pe_fld (pv 0) rfl) (pv 1) (fun _ _ => rfl)))
      (pss_cons (ps_if (pt_cmpR (op_eqT (Z := ⟨K, κ⟩) hr.units rfl) (pe_fld (pv 0) rfl) (pe_tup (pa_cons pe_str (pa_cons (pv 1) pa_nil))) (nomark _)) (pss_one (ps_ret (pe_tup (pa_cons (pv 2) (pa_cons (pe_op op_add (pv 2) pe_int) pa_nil))))) pss_nil)
      (pss_cons (ps_if (pt_cmpR (op_eqT (Z := ⟨K, κ⟩) hr.units rfl) (pe_fld (pv 0) rfl) (pe_tup (pa_cons pe_str (pa_cons (pv 1) pa_nil))) (nomark _)) (pss_one (ps_ret (pe_tup (pa_cons (pe_op op_sub (pv 2) pe_int) (pa_cons (pv 2) pa_nil))))) pss_nil)
      (pss_one (ps_ret (pe_tup (pa_cons (pv 2) pa_nil))))))), ok_body (Z := ⟨K, κ⟩) (O := []) (js_seq (js_asg (j_dget (JD.w (j_fldI CT_Setup.t (.tail _ (.head _)) (j_var nin))) (j_var nin)) (jg_name nin nofun))
      (js_seq (js_if (jb_test (j_op upD r_eqT (j_fldI CT_Setup.t (.tail _ (.tail _ (.tail _ (.tail _ (.tail _ (.head _)))))) (j_var nin)) (j_tup (ja_cons j_str (ja_cons (j_var nin) ja_nil))))) (js_ret (JD.w (j_tup (ja_cons (j_var nin) (ja_cons (j_op upD r_add (j_var nin) j_int) ja_nil))))) js_next)
      (js_seq (js_if (jb_test (j_op upD r_eqT (j_fldI CT_Setup.t (.tail _ (.tail _ (.tail _ (.tail _ (.tail _ (.head _)))))) (j_var nin)) (j_tup (ja_cons j_str (ja_cons (j_var nin) ja_nil))))) (js_ret (JD.w (j_tup (ja_cons (j_op upD r_sub (j_var nin) j_int) (ja_cons (j_var nin) ja_nil))))) js_next)
      (js_ret (JD.w (j_tup (ja_cons (j_var nin) ja_nil))))))) (fun _ m => absurd m List.not_mem_nil) h⟩)
theorem ok__has_both {f : Addr} {fd : FuncData} (F : Fun K "_has_both" "_has_both" s__has_both f fd) (T : TxD2 mg) (CT_Setup : ClsI K mg ⟨K, κ⟩ "Setup" "Setup" ["world", "editions", "sides", "ups", "downs", "going", "span", "lasts"]) : FnOk P w K mg base CX0 1 f fd P__has_both (spD ⟨K, κ⟩ 2 L__has_both) := by
  exact F.ok sc__has_both (fun vs H Q E h => h.1) (fun cdv A outer s H vs Q E hr h => ⟨_, (pss_one (ps_ret (pe_cmpR op_eq (pe_dget (lt_units hr.units) (pe_fld (pv 0) rfl) (pe_ix ix_tup (pv 1) pe_int (fun _ _ => rfl)) (fun _ _ => rfl)) pe_str (nomark _)))), ok_body (Z := ⟨K, κ⟩) (O := []) (js_ret (JD.w (j_op upD r_eq (j_dget (JD.w (j_fldI CT_Setup.t (.tail _ (.tail _ (.head _))) (j_var nin))) (j_op upD r_ixT (j_var nin) j_int)) j_str))) (fun _ m => absurd m List.not_mem_nil) h⟩)
theorem ok__can_add {f : Addr} {fd : FuncData} (F : Fun K "_can_add" "_can_add" s__can_add f fd) (T : TxD2 mg) (CT_Setup : ClsI K mg ⟨K, κ⟩ "Setup" "Setup" ["world", "editions", "sides", "ups", "downs", "going", "span", "lasts"]) : FnOk P w K mg base CX0 1 f fd P__can_add (spD ⟨K, κ⟩ 2 L__can_add) := by
  exact F.ok sc__can_add (fun vs H Q E h => h.1) (fun cdv A outer s H vs Q E hr h => ⟨_, (pss_one (ps_ret (pe_cmpR op_eq (pe_dget (lt_units hr.units) (pe_fld (pv 0) rfl) (pe_ix ix_tup (pv 1) pe_int (fun _ _ => rfl)) (fun _ _ => rfl)) pe_str (nomark _)))), ok_body (Z := ⟨K, κ⟩) (O := []) (js_ret (JD.w (j_op upD r_eq (j_dget (JD.w (j_fldI CT_Setup.t (.tail _ (.tail _ (.head _))) (j_var nin))) (j_op upD r_ixT (j_var nin) j_int)) j_str))) (fun _ m => absurd m List.not_mem_nil) h⟩)
theorem ok__add {f : Addr} {fd : FuncData} (F : Fun K "_add" "_add" s__add f fd) (T : TxD2 mg) (CT_Setup : ClsI K mg ⟨K, κ⟩ "Setup" "Setup" ["world", "editions", "sides", "ups", "downs", "going", "span", "lasts"]) : FnOk P w K mg base CX0 1 f fd P__add (spD ⟨K, κ⟩ 2 L__add) := by
  exact F.ok sc__add (fun vs H Q E h => h.1) (fun cdv A outer s H vs Q E hr h => ⟨_, (pss_one (ps_dput (lt_units hr.units) (pe_fld (pv 0) rfl) (pe_ix ix_tup (pv 1) pe_int (fun _ _ => rfl)) pe_str rfl)), ok_body (Z := ⟨K, κ⟩) (O := []) (js_dputLo (j_fldI CT_Setup.t (.tail _ (.tail _ (.head _))) (j_var nin)) (j_op upD r_ixT (j_var nin) j_int) j_str) (fun _ m => absurd m List.not_mem_nil) h⟩)
theorem ok__can_drop {f : Addr} {fd : FuncData} (F : Fun K "_can_drop" "_can_drop" s__can_drop f fd) (T : TxD2 mg) (cL__has_both : Cal P w K mg base 1 "_has_both" P__has_both (spD ⟨K, κ⟩ 2 L__has_both)) (CT_Setup : ClsI K mg ⟨K, κ⟩ "Setup" "Setup" ["world", "editions", "sides", "ups", "downs", "going", "span", "lasts"]) : FnOk P w K mg base CX0 2 f fd P__can_drop (spD ⟨K, κ⟩ 2 L__can_drop) := by
  obtain ⟨f__has_both, fd__has_both, G__has_both, b__has_both, g__has_both, k__has_both⟩ := cL__has_both
  exact F.ok sc__can_drop (fun vs H Q E h => h.1) (fun cdv A outer s H vs Q E hr h => ⟨_, (pss_one (ps_ret (pe_and (pe_call G__has_both (hr.mono (by decide)) rfl g__has_both k__has_both b__has_both .nil pass0 (pa_cons (pv 0) (pa_cons (pv 1) pa_nil))) (pe_and (pe_cmp (pc_dnotin (lt_units hr.units) (pe_ix ix_tup (pv 1) pe_int (fun _ _ => rfl)) (pe_fld (pv 0) rfl))) (pe_one (pe_cmp (pc_dnotin (lt_units hr.units) (pe_ix ix_tup (pv 1) pe_int (fun _ _ => rfl)) (pe_fld (pv 0) rfl)))))))), ok_body (Z := ⟨K, κ⟩) (O := []) (js_ret (JD.w (j_andV (j_callV via_id (ja_cons (j_var nin) (ja_cons (j_var nin) ja_nil)) (len_cons (len_cons (fun _ _ _ _ h => len_nil h)))) (j_andV (j_dnotin (j_op upD r_ixT (j_var nin) j_int) (JD.w (j_fldI CT_Setup.t (.tail _ (.tail _ (.tail _ (.head _)))) (j_var nin)))) (j_dnotin (j_op upD r_ixT (j_var nin) j_int) (JD.w (j_fldI CT_Setup.t (.tail _ (.tail _ (.tail _ (.tail _ (.head _))))) (j_var nin)))))))) (fun _ m => absurd m List.not_mem_nil) h⟩)
theorem ok__drop {f : Addr} {fd : FuncData} (F : Fun K "_drop" "_drop" s__drop f fd) (T : TxD2 mg) (cL_other_side : Cal P w K mg base 1 "other_side" P_other_side (spD ⟨K, κ⟩ 1 L_other_side)) (CT_Setup : ClsI K mg ⟨K, κ⟩ "Setup" "Setup" ["world", "editions", "sides", "ups", "downs", "going", "span", "lasts"]) : FnOk P w K mg base CX0 2 f fd P__drop (spD ⟨K, κ⟩ 2 L__drop) := by
  obtain ⟨f_other_side, fd_other_side, G_other_side, b_other_side, g_other_side, k_other_side⟩ := cL_other_side
  exact F.ok sc__drop (fun vs H Q E h => h.1) (fun cdv A outer s H vs Q E hr h => ⟨_, (pss_one (ps_dput (lt_units hr.units) (pe_fld (pv 0) rfl) (pe_ix ix_tup (pv 1) pe_int (fun _ _ => rfl)) (pe_call G_other_side (hr.mono (by decide)) rfl g_other_side k_other_side b_other_side .nil pass0 (pa_cons (pe_ix ix_tup (pv 1) pe_int (fun _ _ => rfl)) pa_nil)) rfl)), ok_body (Z := ⟨K, κ⟩) (O := []) (js_dputLo (j_fldI CT_Setup.t (.tail _ (.tail _ (.head _))) (j_var nin)) (j_op upD r_ixT (j_var nin) j_int) (j_callV via_id (ja_cons (j_op upD r_ixT (j_var nin) j_int) ja_nil) (len_cons (fun _ _ _ _ h => len_nil h)))) (fun _ m => absurd m List.not_mem_nil) h⟩)
theorem ok__can_mirror_up {f : Addr} {fd : FuncData} (F : Fun K "_can_mirror_up" "_can_mirror_up" s__can_mirror_up f fd) (T : TxD2 mg) (cL__has_both : Cal P w K mg base 1 "_has_both" P__has_both (spD ⟨K, κ⟩ 2 L__has_both)) (CT_Setup : ClsI K mg ⟨K, κ⟩ "Setup" "Setup" ["world", "editions", "sides", "ups", "downs", "going", "span", "lasts"]) : FnOk P w K mg base CX0 2 f fd P__can_mirror_up (spD ⟨K, κ⟩ 2 L__can_mirror_up) := by
  obtain ⟨f__has_both, fd__has_both, G__has_both, b__has_both, g__has_both, k__has_both⟩ := cL__has_both
  exact F.ok sc__can_mirror_up (fun vs H Q E h => h.1) (fun cdv A outer s H vs Q E hr h => ⟨_, (pss_one (ps_ret (pe_and (pe_call G__has_both (hr.mono (by decide)) rfl g__has_both k__has_both b__has_both .nil pass0 (pa_cons (pv 0) (pa_cons (pv 1) pa_nil))) (pe_one (pe_cmp (pc_dnotin (lt_units hr.units) (pe_ix ix_tup (pv 1) pe_int (fun _ _ => rfl)) (pe_fld (pv 0) rfl))))))), ok_body (Z := ⟨K, κ⟩) (O := []) (js_ret (JD.w (j_andV (j_callV via_id (ja_cons (j_var nin) (ja_cons (j_var nin) ja_nil)) (len_cons (len_cons (fun _ _ _ _ h => len_nil h)))) (j_dnotin (j_op upD r_ixT (j_var nin) j_int) (JD.w (j_fldI CT_Setup.t (.tail _ (.tail _ (.tail _ (.head _)))) (j_var nin))))))) (fun _ m => absurd m List.not_mem_nil) h⟩)
theorem ok__mirror_up {f : Addr} {fd : FuncData} (F : Fun K "_mirror_up" "_mirror_up" s__mirror_up f fd) (T : TxD2 mg) (CT_Setup : ClsI K mg ⟨K, κ⟩ "Setup" "Setup" ["world", "editions", "sides", "ups", "downs", "going", "span", "lasts"]) : FnOk P w K mg base CX0 1 f fd P__mirror_up (spD ⟨K, κ⟩ 2 L__mirror_up) := by
  exact F.ok sc__mirror_up (fun vs H Q E h => h.1) (fun cdv A outer s H vs Q E hr h => ⟨_, (pss_one (ps_dput (lt_units hr.units) (pe_fld (pv 0) rfl) (pe_ix ix_tup (pv 1) pe_int (fun _ _ => rfl)) pe_bl rfl)), ok_body (Z := ⟨K, κ⟩) (O := []) (js_dputLo (j_fldI CT_Setup.t (.tail _ (.tail _ (.tail _ (.head _)))) (j_var nin)) (j_op upD r_ixT (j_var nin) j_int) j_bl) (fun _ m => absurd m List.not_mem_nil) h⟩)
theorem ok__is_up {f : Addr} {fd : FuncData} (F : Fun K "_is_up" "_is_up" s__is_up f fd) (T : TxD2 mg) (CT_Setup : ClsI K mg ⟨K, κ⟩ "Setup" "Setup" ["world", "editions", "sides", "ups", "downs", "going", "span", "lasts"]) : FnOk P w K mg base CX0 1 f fd P__is_up (spD ⟨K, κ⟩ 2 L__is_up) := by
  exact F.ok sc__is_up (fun vs H Q E h => h.1) (fun cdv A outer s H vs Q E hr h => ⟨_, (pss_one (ps_ret (pe_cmp (pc_din (lt_units hr.units) (pe_ix ix_tup (pv 1) pe_int (fun _ _ => rfl)) (pe_fld (pv 0) rfl))))), ok_body (Z := ⟨K, κ⟩) (O := []) (js_ret (JD.w (j_din (j_op upD r_ixT (j_var nin) j_int) (JD.w (j_fldI CT_Setup.t (.tail _ (.tail _ (.tail _ (.head _)))) (j_var nin)))))) (fun _ m => absurd m List.not_mem_nil) h⟩)
theorem ok__end_up {f : Addr} {fd : FuncData} (F : Fun K "_end_up" "_end_up" s__end_up f fd) (T : TxD2 mg) (CT_Setup : ClsI K mg ⟨K, κ⟩ "Setup" "Setup" ["world", "editions", "sides", "ups", "downs", "going", "span", "lasts"]) : FnOk P w K mg base CX0 1 f fd P__end_up (spD ⟨K, κ⟩ 2 L__end_up) := by
  exact F.ok sc__end_up (fun vs H Q E h => h.1) (fun cdv A outer s H vs Q E hr h => ⟨_, (pss_one (ps_ddel (pe_fld (pv 0) rfl) (pe_ix ix_tup (pv 1) pe_int (fun _ _ => rfl)))), ok_body (Z := ⟨K, κ⟩) (O := []) (js_ddelLo (j_fldI CT_Setup.t (.tail _ (.tail _ (.tail _ (.head _)))) (j_var nin)) (j_op upD r_ixT (j_var nin) j_int)) (fun _ m => absurd m List.not_mem_nil) h⟩)
theorem ok__can_mirror_down {f : Addr} {fd : FuncData} (F : Fun K "_can_mirror_down" "_can_mirror_down" s__can_mirror_down f fd) (T : TxD2 mg) (cL__has_both : Cal P w K mg base 1 "_has_both" P__has_both (spD ⟨K, κ⟩ 2 L__has_both)) (CT_Setup : ClsI K mg ⟨K, κ⟩ "Setup" "Setup" ["world", "editions", "sides", "ups", "downs", "going", "span", "lasts"]) : FnOk P w K mg base CX0 2 f fd P__can_mirror_down (spD ⟨K, κ⟩ 2 L__can_mirror_down) := by
  obtain ⟨f__has_both, fd__has_both, G__has_both, b__has_both, g__has_both, k__has_both⟩ := cL__has_both
  exact F.ok sc__can_mirror_down (fun vs H Q E h => h.1) (fun cdv A outer s H vs Q E hr h => ⟨_, (pss_one (ps_ret (pe_and (pe_call G__has_both (hr.mono (by decide)) rfl g__has_both k__has_both b__has_both .nil pass0 (pa_cons (pv 0) (pa_cons (pv 1) pa_nil))) (pe_one (pe_cmp (pc_dnotin (lt_units hr.units) (pe_ix ix_tup (pv 1) pe_int (fun _ _ => rfl)) (pe_fld (pv 0) rfl))))))), ok_body (Z := ⟨K, κ⟩) (O := []) (js_ret (JD.w (j_andV (j_callV via_id (ja_cons (j_var nin) (ja_cons (j_var nin) ja_nil)) (len_cons (len_cons (fun _ _ _ _ h => len_nil h)))) (j_dnotin (j_op upD r_ixT (j_var nin) j_int) (JD.w (j_fldI CT_Setup.t (.tail _ (.tail _ (.tail _ (.tail _ (.head _))))) (j_var nin))))))) (fun _ m => absurd m List.not_mem_nil) h⟩)
theorem ok__mirror_down {f : Addr} {fd : FuncData} (F : Fun K "_mirror_down" "_mirror_down" s__mirror_down f fd) (T : TxD2 mg) (CT_Setup : ClsI K mg ⟨K, κ⟩ "Setup" "Setup" ["world", "editions", "sides", "ups", "downs", "going", "span", "lasts"]) : FnOk P w K mg base CX0 1 f fd P__mirror_down (spD ⟨K, κ⟩ 2 L__mirror_down) := by
  exact F.ok sc__mirror_down (fun vs H Q E h => h.1) (fun cdv A outer s H vs Q E hr h => ⟨_, (pss_one (ps_dput (lt_units hr.units) (pe_fld (pv 0) rfl) (pe_ix ix_tup (pv 1) pe_int (fun _ _ => rfl)) (pe_ix ix_tup (pv 1) pe_int (fun _ _ => rfl)) rfl)), ok_body (Z := ⟨K, κ⟩) (O := []) (js_dputLo (j_fldI CT_Setup.t (.tail _ (.tail _ (.tail _ (.tail _ (.head _))))) (j_var nin)) (j_op upD r_ixT (j_var nin) j_int) (j_op upD r_ixT (j_var nin) j_int)) (fun _ m => absurd m List.not_mem_nil) h⟩)
theorem ok__is_down {f : Addr} {fd : FuncData} (F : Fun K "_is_down" "_is_down" s__is_down f fd) (T : TxD2 mg) (CT_Setup : ClsI K mg ⟨K, κ⟩ "Setup" "Setup" ["world", "editions", "sides", "ups", "downs", "going", "span", "lasts"]) : FnOk P w K mg base CX0 1 f fd P__is_down (spD ⟨K, κ⟩ 2 L__is_down) := by
  exact F.ok sc__is_down (fun vs H Q E h => h.1) (fun cdv A outer s H vs Q E hr h => ⟨_, (pss_one (ps_ret (pe_cmp (pc_din (lt_units hr.units) (pe_ix ix_tup (pv 1) pe_int (fun _ _ => rfl)) (pe_fld (pv 0) rfl))))), ok_body (Z := ⟨K, κ⟩) (O := []) (js_ret (JD.w (j_din (j_op upD r_ixT (j_var nin) j_int) (JD.w (j_fldI CT_Setup.t (.tail _ (.tail _ (.tail _ (.tail _ (.head _))))) (j_var nin)))))) (fun _ m => absurd m List.not_mem_nil) h⟩)
theorem ok__end_down {f : Addr} {fd : FuncData} (F : Fun K "_end_down" "_end_down" s__end_down f fd) (T : TxD2 mg) (CT_Setup : ClsI K mg ⟨K, κ⟩ "Setup" "Setup" ["world", "editions", "sides", "ups", "downs", "going", "span", "lasts"]) : FnOk P w K mg base CX0 1 f fd P__end_down (spD ⟨K, κ⟩ 2 L__end_down) := by
  exact F.ok sc__end_down (fun vs H Q E h => h.1) (fun cdv A outer s H vs Q E hr h => ⟨_, (pss_one (ps_ddel (pe_fld (pv 0) rfl) (pe_ix ix_tup (pv 1) pe_int (fun _ _ => rfl)))), ok_body (Z := ⟨K, κ⟩) (O := []) (js_ddelLo (j_fldI CT_Setup.t (.tail _ (.tail _ (.tail _ (.tail _ (.head _))))) (j_var nin)) (j_op upD r_ixT (j_var nin) j_int)) (fun _ m => absurd m List.not_mem_nil) h⟩)
theorem ok__can_release {f : Addr} {fd : FuncData} (F : Fun K "_can_release" "_can_release" s__can_release f fd) (T : TxD2 mg) (CT_Setup : ClsI K mg ⟨K, κ⟩ "Setup" "Setup" ["world", "editions", "sides", "ups", "downs", "going", "span", "lasts"]) (cL_editions_of : Cal P w K mg base 1 "editions_of" P_editions_of (spD ⟨K, κ⟩ 2 L_editions_of)) : FnOk P w K mg base CX0 2 f fd P__can_release (spD ⟨K, κ⟩ 2 L__can_release) := by
  obtain ⟨f_editions_of, fd_editions_of, G_editions_of, b_editions_of, g_editions_of, k_editions_of⟩ := cL_editions_of
  exact F.ok sc__can_release (fun vs H Q E h => h.1) (fun cdv A outer s H vs Q E hr h => ⟨_, (pss_one (ps_ret (pe_cmpR op_lt (pe_op op_add (pe_dget (lt_units hr.units) (pe_fld (pv 0) rfl) (pe_ix ix_tup (pv 1) pe_int (fun _ _ => rfl)) (fun _ _ => rfl)) pe_int) (pe_callB call_len_seq (by rfl) T.n_len (by decide +kernel) (pa_cons (pe_call G_editions_of (hr.mono (by decide)) rfl g_editions_of k_editions_of b_editions_of .nil pass0 (pa_cons (pe_fld (pv 0) rfl) (pa_cons (pe_ix ix_tup (pv 1) pe_int (fun _ _ => rfl)) pa_nil))) pa_nil)) (nomark _)))), ok_body (Z := ⟨K, κ⟩) (O := []) (js_ret (JD.w (j_op upD r_lt (j_op upD r_add (j_dget (JD.w (j_fldI CT_Setup.t (.tail _ (.head _)) (j_var nin))) (j_op upD r_ixT (j_var nin) j_int)) j_int) (j_cb c_len (ja_consW (JD.w (j_callV via_id (ja_cons (j_fldI CT_Setup.t (.head _) (j_var nin)) (ja_cons (j_op upD r_ixT (j_var nin) j_int) ja_nil)) (len_cons (len_cons (fun _ _ _ _ h => len_nil h))))) ja_nil))))) (fun _ m => absurd m List.not_mem_nil) h⟩)
theorem ok__can_withdraw {f : Addr} {fd : FuncData} (F : Fun K "_can_withdraw" "_can_withdraw" s__can_withdraw f fd) (T : TxD2 mg) (CT_Setup : ClsI K mg ⟨K, κ⟩ "Setup" "Setup" ["world", "editions", "sides", "ups", "downs", "going", "span", "lasts"]) : FnOk P w K mg base CX0 1 f fd P__can_withdraw (spD ⟨K, κ⟩ 2 L__can_withdraw) := by
  exact F.ok sc__can_withdraw (fun vs H Q E h => h.1) (fun cdv A outer s H vs Q E hr h => ⟨_, (pss_one (ps_ret (pe_cmpR op_gt (pe_dget (lt_units hr.units) (pe_fld (pv 0) rfl) (pe_ix ix_tup (pv 1) pe_int (fun _ _ => rfl)) (fun _ _ => rfl)) pe_int (nomark _)))), ok_body (Z := ⟨K, κ⟩) (O := []) (js_ret (JD.w (j_op upD r_gt (j_dget (JD.w (j_fldI CT_Setup.t (.tail _ (.head _)) (j_var nin))) (j_op upD r_ixT (j_var nin) j_int)) j_int))) (fun _ m => absurd m List.not_mem_nil) h⟩)
theorem ok__go_on {f : Addr} {fd : FuncData} (F : Fun K "_go_on" "_go_on" s__go_on f fd) (T : TxD2 mg) (CT_Setup : ClsI K mg ⟨K, κ⟩ "Setup" "Setup" ["world", "editions", "sides", "ups", "downs", "going", "span", "lasts"]) : FnOk P w K mg base CX0 1 f fd P__go_on (spD ⟨K, κ⟩ 2 L__go_on) := by
  exact F.ok sc__go_on (fun vs H Q E h => h.1) (fun cdv A outer s H vs Q E hr h => ⟨_, (pss_one (ps_fld (pv 0) (pv 1) rfl)), ok_body (Z := ⟨K, κ⟩) (O := []) (js_setFL CT_Setup.t (.tail _ (.tail _ (.tail _ (.tail _ (.tail _ (.head _)))))) (j_var nin) (j_var nin)) (fun _ m => absurd m List.not_mem_nil) h⟩)
theorem ok__can_grow {f : Addr} {fd : FuncData} (F : Fun K "_can_grow" "_can_grow" s__can_grow f fd) (T : TxD2 mg) (CT_Setup : ClsI K mg ⟨K, κ⟩ "Setup" "Setup" ["world", "editions", "sides", "ups", "downs", "going", "span", "lasts"]) (cL_is_fit : Cal P w K mg base 4 "is_fit" P_is_fit (spD ⟨K, κ⟩ 2 L_is_fit)) : FnOk P w K mg base CX0 5 f fd P__can_grow (spD ⟨K, κ⟩ 2 L__can_grow) := by
  obtain ⟨f_is_fit, fd_is_fit, G_is_fit, b_is_fit, g_is_fit, k_is_fit⟩ := cL_is_fit
  exact F.ok sc__can_grow (fun vs H Q E h => h.1) (fun cdv A outer s H vs Q E hr h => ⟨_, (pss_cons (ps_asg (pe_fld (pv 0) rfl) (pg_tup rfl (pgs_cons (pg_name (i := 2) sc__can_grow.nd rfl (Or.inl rfl)) (pgs_cons (pg_name (i := 3) sc__can_grow.nd rfl (Or.inl rfl)) pgs_nil))))
      (pss_one (ps_ret (pe_and (pe_cmpR op_gt (pe_ix ix_tup (pv 1) pe_int (fun _ _ => rfl)) (pv 3) (nomark _)) (pe_one (pe_call G_is_fit (hr.mono (by decide)) rfl g_is_fit k_is_fit b_is_fit .nil pass0 (pa_cons (pe_fld (pv 0) rfl) (pa_cons (pe_tup (pa_cons (pv 2) (pa_cons (pe_ix ix_tup (pv 1) pe_int (fun _ _ => rfl)) pa_nil))) pa_nil)))))))), ok_body (Z := ⟨K, κ⟩) (O := []) (js_seq (js_asg (j_fldI CT_Setup.t (.tail _ (.tail _ (.tail _ (.tail _ (.tail _ (.tail _ (.head _))))))) (j_var nin)) (jg_tup (jg_cons (jg_name nin nofun) (jg_cons (jg_name nin nofun) jg_nil))))
      (js_ret (JD.w (j_andV (j_op upD r_gt (j_op upD r_ixT (j_var nin) j_int) (j_var nin)) (j_callV via_id (ja_cons (j_fldI CT_Setup.t (.head _) (j_var nin)) (ja_cons (j_tup (ja_cons (j_var nin) (ja_cons (j_op upD r_ixT (j_var nin) j_int) ja_nil))) ja_nil)) (len_cons (len_cons (fun _ _ _ _ h => len_nil h)))))))) (fun _ m => absurd m List.not_mem_nil) h⟩)
theorem ok__grow {f : Addr} {fd : FuncData} (F : Fun K "_grow" "_grow" s__grow f fd) (T : TxD2 mg) (CT_Setup : ClsI K mg ⟨K, κ⟩ "Setup" "Setup" ["world", "editions", "sides", "ups", "downs", "going", "span", "lasts"]) : FnOk P w K mg base CX0 1 f fd P__grow (spD ⟨K, κ⟩ 2 L__grow) := by
  exact F.ok sc__grow (fun vs H Q E h => h.1) (fun cdv A outer s H vs Q E hr h => ⟨_, (pss_cons (ps_fld (pv 0) (pe_tup (pa_cons (pe_ix ix_tup (pe_fld (pv 0) rfl) pe_int (fun _ _ => rfl)) (pa_cons (pe_ix ix_tup (pv 1) pe_int (fun _ _ => rfl)) pa_nil))) rfl)
      (pss_one (ps_expr (pe_bm PySem.F.plainAttrs_list PySem.F.slot_list_append PySem.F.type_list_append mt_append (pe_fld (pv 0) rfl) (pa_cons (pe_ix ix_tup (pv 1) pe_int (fun _ _ => rfl)) pa_nil))))), ok_body (Z := ⟨K, κ⟩) (O := []) (js_seq (js_setFL CT_Setup.t (.tail _ (.tail _ (.tail _ (.tail _ (.tail _ (.tail _ (.head _))))))) (j_var nin) (j_tup (ja_cons (j_op upD r_ixT (j_fldI CT_Setup.t (.tail _ (.tail _ (.tail _ (.tail _ (.tail _ (.tail _ (.head _))))))) (j_var nin)) j_int) (ja_cons (j_op upD r_ixT (j_var nin) j_int) ja_nil))))
      (js_appLo (j_fldI CT_Setup.t (.tail _ (.tail _ (.tail _ (.tail _ (.tail _ (.tail _ (.tail _ (.head _)))))))) (j_var nin)) (ja_cons (j_op upD r_ixT (j_var nin) j_int) ja_nil))) (fun _ m => absurd m List.not_mem_nil) h⟩)
theorem ok__can_purge {f : Addr} {fd : FuncData} (F : Fun K "_can_purge" "_can_purge" s__can_purge f fd) (T : TxD2 mg) (CT_Setup : ClsI K mg ⟨K, κ⟩ "Setup" "Setup" ["world", "editions", "sides", "ups", "downs", "going", "span", "lasts"]) (cL_is_fit : Cal P w K mg base 4 "is_fit" P_is_fit (spD ⟨K, κ⟩ 2 L_is_fit)) : FnOk P w K mg base CX0 5 f fd P__can_purge (spD ⟨K, κ⟩ 2 L__can_purge) := by
  obtain ⟨f_is_fit, fd_is_fit, G_is_fit, b_is_fit, g_is_fit, k_is_fit⟩ := cL_is_fit
  exact F.ok sc__can_purge (fun vs H Q E h => h.1) (fun cdv A outer s H vs Q E hr h => ⟨_, (pss_cons (ps_asg (pe_fld (pv 0) rfl) (pg_tup rfl (pgs_cons (pg_name (i := 2) sc__can_purge.nd rfl (Or.inl rfl)) (pgs_cons (pg_name (i := 3) sc__can_purge.nd rfl (Or.inl rfl)) pgs_nil))))
      (pss_cons (ps_if (pt_not (pt_chain op_lt op_le (pv 2) (pe_ix ix_tup (pv 1) pe_int (fun _ _ => rfl)) (pv 3))) (pss_one (ps_ret pe_bl)) pss_nil)
      (pss_cons (ps_setLc (i := 4) (own := [("used", 5)]) (g := (gName 5))  rfl sc__can_purge.nd rfl rfl (sw_true rfl rfl rfl (by decide +kernel)) (pi_list (pe_fld (pv 0) rfl)) (blkOk_by (N := N__can_purge) (sc := defScope s__can_purge) (by decide +kernel)) (fun _ _ _ _ _ => (pg_name (i := 5) sc__can_purge.nd rfl (Or.inl rfl))) (fun _ _ _ _ _ => (pts_one (pt_cmpR op_ge (pv 5) (pe_ix ix_tup (pv 1) pe_int (fun _ _ => rfl)) (nomark _)))) (fun _ _ _ _ _ => (pe_tup (pa_cons (pe_ix ix_tup (pv 1) pe_int (fun _ _ => rfl)) (pa_cons (pv 5) pa_nil)))))
      (pss_one (ps_ret (pe_callB (cr_all rfl) (by rfl) T.n_all (by decide +kernel) (pa_cons (pe_lc (own := [("span", 6)]) (g := (gName 6)) (tt := tYes) rfl sc__can_purge.nd (pi_list (pv 4)) (blkOk_by (N := N__can_purge) (sc := defScope s__can_purge) (by decide +kernel)) (fun _ _ _ _ _ => (pg_name (i := 6) sc__can_purge.nd rfl (Or.inl rfl))) (fun _ _ _ _ _ => pts_nil) (fun _ _ _ _ _ => (pe_call G_is_fit (hr.mono (by decide)) rfl g_is_fit k_is_fit b_is_fit .nil pass0 (pa_cons (pe_fld (pv 0) rfl) (pa_cons (pv 6) pa_nil))))) pa_nil))))))), ok_body (Z := ⟨K, κ⟩) (O := []) (js_seq (js_asg (j_fldI CT_Setup.t (.tail _ (.tail _ (.tail _ (.tail _ (.tail _ (.tail _ (.head _))))))) (j_var nin)) (jg_tup (jg_cons (jg_name nin nofun) (jg_cons (jg_name nin nofun) jg_nil))))
      (js_seq (js_if (jb_not (jb_test (j_chain r_lt r_le (j_var nin) (j_op upD r_ixT (j_var nin) j_int) (j_var nin)))) (js_ret (JD.w j_bl)) js_next)
      (js_seq (js_asg (j_lc (ji_list xCo (j_fldI CT_Setup.t (.tail _ (.tail _ (.tail _ (.tail _ (.tail _ (.tail _ (.tail _ (.head _)))))))) (j_var nin))) (jg_name nin (fun w e => by cases e; decide)) (jb_test (j_op upD r_ge (j_var nin) (j_op upD r_ixT (j_var nin) j_int))) (j_tup (ja_cons (j_op upD r_ixT (j_var nin) j_int) (ja_cons (j_var nin) ja_nil)))) (jg_name nin nofun))
      (js_ret (JD.w (j_cb c_all (ja_consW (JD.w (j_lc (ji_list xCo (j_var nin)) (jg_name nin (fun w e => by cases e; decide)) jb_yes (j_callV via_id (ja_cons (j_fldI CT_Setup.t (.head _) (j_var nin)) (ja_cons (j_var nin) ja_nil)) (len_cons (len_cons (fun _ _ _ _ h => len_nil h)))))) ja_nil))))))) (fun _ m => absurd m List.not_mem_nil) h⟩)
theorem ok__purge {f : Addr} {fd : FuncData} (F : Fun K "_purge" "_purge" s__purge f fd) (T : TxD2 mg) (CT_Setup : ClsI K mg ⟨K, κ⟩ "Setup" "Setup" ["world", "editions", "sides", "ups", "downs", "going", "span", "lasts"]) : FnOk P w K mg base CX0 1 f fd P__purge (spD ⟨K, κ⟩ 2 L__purge) := by
  exact F.ok sc__purge (fun vs H Q E h => h.1) (fun cdv A outer s H vs Q E hr h => ⟨_, (pss_one (ps_fld (pv 0) (pe_tup (pa_cons (pe_ix ix_tup (pv 1) pe_int (fun _ _ => rfl)) (pa_cons (pe_ix ix_tup (pe_fld (pv 0) rfl) pe_int (fun _ _ => rfl)) pa_nil))) rfl)), ok_body (Z := ⟨K, κ⟩) (O := []) (js_setFL CT_Setup.t (.tail _ (.tail _ (.tail _ (.tail _ (.tail _ (.tail _ (.head _))))))) (j_var nin) (j_tup (ja_cons (j_op upD r_ixT (j_var nin) j_int) (ja_cons (j_op upD r_ixT (j_fldI CT_Setup.t (.tail _ (.tail _ (.tail _ (.tail _ (.tail _ (.tail _ (.head _))))))) (j_var nin)) j_int) ja_nil)))) (fun _ m => absurd m List.not_mem_nil) h⟩)
theorem ok_Setup_behind_begin {f : Addr} {fd : FuncData} (F : Fun K "behind_begin" "Setup.behind_begin" s_Setup_behind_begin f fd) (T : TxD2 mg) (FD_POSSIBLE : FDict ⟨K, κ⟩ w mg "POSSIBLE" a_POSSIBLE t_POSSIBLE) (CT_Setup : ClsI K mg ⟨K, κ⟩ "Setup" "Setup" ["world", "editions", "sides", "ups", "downs", "going", "span", "lasts"]) (HT_POSSIBLE : ∀ f sp, RT ⟨K, κ⟩ 2 T_POSSIBLE f sp → Held P w K mg base 5 f sp) (cL__twin : Cal P w K mg base 3 "_twin" P__twin (spD ⟨K, κ⟩ 1 L__twin)) (FD_CHANGES : FDict ⟨K, κ⟩ w mg "CHANGES" a_CHANGES t_CHANGES) (HT_CHANGES : ∀ f sp, RT ⟨K, κ⟩ 2 T_CHANGES f sp → Held P w K mg base 2 f sp) : FnOk P w K mg base CX0 6 f fd P_Setup_behind_begin (spD ⟨K, κ⟩ 2 L_Setup_behind_begin) := by
  obtain ⟨f__twin, fd__twin, G__twin, b__twin, g__twin, k__twin⟩ := cL__twin
  exact F.ok sc_Setup_behind_begin (fun vs H Q E h => h.1) (fun cdv A outer s H vs Q E hr h => ⟨_, (pss_cons (ps_set (i := 2) sc_Setup_behind_begin.nd rfl (Or.inl rfl) (pe_ix ix_kdict (pe_glob (v := .ref a_POSSIBLE) rfl FD_POSSIBLE.g rfl) (pe_ix ix_tup (pv 1) pe_int (fun _ _ => rfl)) (fun _ _ => rfl)))
      (pss_cons (ps_if (PW.pt (pw_or (pt_truth (pe_fld (pv 0) rfl) (fun _ => rfl)) (pw_or1 (pt_not (pt_val (pe_callR HT_POSSIBLE (hr.mono (by decide)) rfl (Or.inl rfl) (pa_cons (pv 0) (pa_cons (pv 1) pa_nil)))))))) (pss_one (ps_ret pe_non)) pss_nil)
      (pss_cons (ps_set (i := 3) sc_Setup_behind_begin.nd rfl (Or.inl rfl) (pe_call G__twin (hr.mono (by decide)) rfl g__twin k__twin b__twin .nil pass0 (pa_cons (pv 0) pa_nil)))
      (pss_cons (ps_set (i := 4) sc_Setup_behind_begin.nd rfl (Or.inl rfl) (pe_ix ix_kdict (pe_glob (v := .ref a_CHANGES) rfl FD_CHANGES.g rfl) (pe_ix ix_tup (pv 1) pe_int (fun _ _ => rfl)) (fun _ _ => rfl)))
      (pss_cons (ps_expr (pe_callR HT_CHANGES (hr.mono (by decide)) rfl (Or.inl rfl) (pa_cons (pv 3) (pa_cons (pv 1) pa_nil))))
      (pss_one (ps_ret (pv 3)))))))), ok_body (Z := ⟨K, κ⟩) (O := []) (js_seq (js_asg (j_kix FD_POSSIBLE (j_op upD r_ixT (j_var nin) j_int)) (jg_name nin nofun))
      (js_seq (js_if (jb_or (jb_tru (j_fldI CT_Setup.t (.tail _ (.tail _ (.tail _ (.tail _ (.tail _ (.head _)))))) (j_var nin))) (jb_not (jb_B (j_callT nin (ja_cons (j_var nin) (ja_cons (j_var nin) ja_nil)) (len_cons (len_cons (fun _ _ _ _ h => len_nil h))))))) (js_ret (JD.w j_non)) js_next)
      (js_seq (js_asg (j_callV via_id (ja_cons (j_var nin) ja_nil) (len_cons (fun _ _ _ _ h => len_nil h))) (jg_name nin nofun))
      (js_seq (js_asg (j_kix FD_CHANGES (j_op upD r_ixT (j_var nin) j_int)) (jg_name nin nofun))
      (js_seq (js_drop (j_callT nin (ja_cons (j_var nin) (ja_cons (j_var nin) ja_nil)) (len_cons (len_cons (fun _ _ _ _ h => len_nil h)))))
      (js_ret (JD.w (j_var nin)))))))) (fun _ m => absurd m List.not_mem_nil) h⟩)
theorem ok_Setup_behind_end {f : Addr} {fd : FuncData} (F : Fun K "behind_end" "Setup.behind_end" s_Setup_behind_end f fd) (T : TxD2 mg) (cL__twin : Cal P w K mg base 3 "_twin" P__twin (spD ⟨K, κ⟩ 1 L__twin)) (CT_Setup : ClsI K mg ⟨K, κ⟩ "Setup" "Setup" ["world", "editions", "sides", "ups", "downs", "going", "span", "lasts"]) : FnOk P w K mg base CX0 4 f fd P_Setup_behind_end (spD ⟨K, κ⟩ 1 L_Setup_behind_end) := by
  obtain ⟨f__twin, fd__twin, G__twin, b__twin, g__twin, k__twin⟩ := cL__twin
  exact F.ok sc_Setup_behind_end (fun vs H Q E h => h.1) (fun cdv A outer s H vs Q E hr h => ⟨_, (pss_cons (ps_set (i := 1) sc_Setup_behind_end.nd rfl (Or.inl rfl) (pe_call G__twin (hr.mono (by decide)) rfl g__twin k__twin b__twin .nil pass0 (pa_cons (pv 0) pa_nil)))
      (pss_cons (ps_if (pt_cmpR op_eq (pe_ix ix_tup (pe_fld (pv 0) rfl) pe_int (fun _ _ => rfl)) pe_str (nomark _)) (pss_one (ps_dput (lt_units hr.units) (pe_fld (pv 1) rfl) (pe_ix ix_tup (pe_fld (pv 0) rfl) pe_int (fun _ _ => rfl)) (pe_op op_add (pe_dget (lt_units hr.units) (pe_fld (pv 0) rfl) (pe_ix ix_tup (pe_fld (pv 0) rfl) pe_int (fun _ _ => rfl)) (fun _ _ => rfl)) pe_int) rfl)) pss_nil)
      (pss_cons (ps_if (pt_cmpR op_eq (pe_ix ix_tup (pe_fld (pv 0) rfl) pe_int (fun _ _ => rfl)) pe_str (nomark _)) (pss_one (ps_dput (lt_units hr.units) (pe_fld (pv 1) rfl) (pe_ix ix_tup (pe_fld (pv 0) rfl) pe_int (fun _ _ => rfl)) (pe_op op_sub (pe_dget (lt_units hr.units) (pe_fld (pv 0) rfl) (pe_ix ix_tup (pe_fld (pv 0) rfl) pe_int (fun _ _ => rfl)) (fun _ _ => rfl)) pe_int) rfl)) pss_nil)
      (pss_one (ps_ret (pv 1)))))), ok_body (Z := ⟨K, κ⟩) (O := []) (js_seq (js_asg (j_callV via_id (ja_cons (j_var nin) ja_nil) (len_cons (fun _ _ _ _ h => len_nil h))) (jg_name nin nofun))
      (js_seq (js_if (jb_test (j_op upD r_eq (j_op upD r_ixT (j_fldI CT_Setup.t (.tail _ (.tail _ (.tail _ (.tail _ (.tail _ (.head _)))))) (j_var nin)) j_int) j_str)) (js_dputLo (j_fldI CT_Setup.t (.tail _ (.head _)) (j_var nin)) (j_op upD r_ixT (j_fldI CT_Setup.t (.tail _ (.tail _ (.tail _ (.tail _ (.tail _ (.head _)))))) (j_var nin)) j_int) (j_op upD r_add (j_dget (JD.w (j_fldI CT_Setup.t (.tail _ (.head _)) (j_var nin))) (j_op upD r_ixT (j_fldI CT_Setup.t (.tail _ (.tail _ (.tail _ (.tail _ (.tail _ (.head _)))))) (j_var nin)) j_int)) j_int)) js_next)
      (js_seq (js_if (jb_test (j_op upD r_eq (j_op upD r_ixT (j_fldI CT_Setup.t (.tail _ (.tail _ (.tail _ (.tail _ (.tail _ (.head _)))))) (j_var nin)) j_int) j_str)) (js_dputLo (j_fldI CT_Setup.t (.tail _ (.head _)) (j_var nin)) (j_op upD r_ixT (j_fldI CT_Setup.t (.tail _ (.tail _ (.tail _ (.tail _ (.tail _ (.head _)))))) (j_var nin)) j_int) (j_op upD r_sub (j_dget (JD.w (j_fldI CT_Setup.t (.tail _ (.head _)) (j_var nin))) (j_op upD r_ixT (j_fldI CT_Setup.t (.tail _ (.tail _ (.tail _ (.tail _ (.tail _ (.head _)))))) (j_var nin)) j_int)) j_int)) js_next)
      (js_ret (JD.w (j_var nin)))))) (fun _ m => absurd m List.not_mem_nil) h⟩)
theorem ok_Setup_what_holds {f : Addr} {fd : FuncData} (F : Fun K "what_holds" "Setup.what_holds" s_Setup_what_holds f fd) (T : TxD2 mg) (GT_FILLS : GTup K mg "FILLS" a_FILLS ["fill", "fill back"]) (CT_Setup : ClsI K mg ⟨K, κ⟩ "Setup" "Setup" ["world", "editions", "sides", "ups", "downs", "going", "span", "lasts"]) (CT_World : ClsI K mg ⟨K, κ⟩ "World" "World" ["narrow", "wide", "columns", "programs"]) (cL__running : Cal P w K mg base 1 "_running" P__running (spD ⟨K, κ⟩ 2 L__running)) : FnOk P w K mg base CX0 2 f fd P_Setup_what_holds (spD ⟨K, κ⟩ 1 L_Setup_what_holds) := by
  obtain ⟨f__running, fd__running, G__running, b__running, g__running, k__running⟩ := cL__running
  exact F.ok sc_Setup_what_holds (fun vs H Q E h => h.1) (fun cdv A outer s H vs Q E hr h => ⟨_, (pss_cons (ps_set (i := 1) sc_Setup_what_holds.nd rfl (Or.inl rfl) (pe_lst pa_nil))
      (pss_cons (ps_set (i := 2) sc_Setup_what_holds.nd rfl (Or.inl rfl) (pe_lst pa_nil))
      (pss_cons (ps_for PassesOwn.never rfl (pi_tup (pe_fld (pe_fld (pv 0) rfl) rfl)) (pg_tup rfl (pgs_cons (pg_name (i := 3) sc_Setup_what_holds.nd rfl (Or.inl rfl)) (pgs_cons (pg_name (i := 4) sc_Setup_what_holds.nd rfl (Or.inl rfl)) pgs_nil))) (pss_one (ps_for PassesOwn.never rfl (pi_tup (pe_call G__running (hr.mono (by decide)) rfl g__running k__running b__running .nil pass0 (pa_cons (pv 0) (pa_cons (pv 3) pa_nil)))) (pg_name (i := 5) sc_Setup_what_holds.nd rfl (Or.inl rfl)) (pss_one (ps_expr (pe_bm PySem.F.plainAttrs_list PySem.F.slot_list_append PySem.F.type_list_append mt_append (pv 1) (pa_cons (pe_tup (pa_cons (pv 3) (pa_cons (pv 5) pa_nil))) pa_nil)))))))
      (pss_cons (ps_for PassesOwn.never rfl (pi_tup (pe_fld (pe_fld (pv 0) rfl) rfl)) (pg_name (i := 6) sc_Setup_what_holds.nd rfl (Or.inl rfl)) (pss_cons (ps_if (pt_cmp (pc_din (lt_units hr.units) (pv 6) (pe_fld (pv 0) rfl))) (pss_one (ps_expr (pe_bm PySem.F.plainAttrs_list PySem.F.slot_list_append PySem.F.type_list_append mt_append (pv 2) (pa_cons (pe_tup (pa_cons (pv 6) (pa_cons pe_str (pa_cons (pe_dget (lt_units hr.units) (pe_fld (pv 0) rfl) (pv 6) (fun _ _ => rfl)) pa_nil)))) pa_nil)))) pss_nil)
      (pss_one (ps_if (pt_cmp (pc_din (lt_units hr.units) (pv 6) (pe_fld (pv 0) rfl))) (pss_one (ps_expr (pe_bm PySem.F.plainAttrs_list PySem.F.slot_list_append PySem.F.type_list_append mt_append (pv 2) (pa_cons (pe_tup (pa_cons (pv 6) (pa_cons pe_str (pa_cons pe_str pa_nil)))) pa_nil)))) pss_nil))))
      (pss_cons (ps_set (i := 7) sc_Setup_what_holds.nd rfl (Or.inl rfl) (pe_callTy call_tuple_of (by rfl) T.n_tuple (by decide +kernel) (pa_cons (pe_lc (own := [("column", 6)]) (g := (gName 6)) (tt := tYes) rfl sc_Setup_what_holds.nd (pi_tup (pe_fld (pe_fld (pv 0) rfl) rfl)) (blkOk_by (N := N_Setup_what_holds) (sc := defScope s_Setup_what_holds) (by decide +kernel)) (fun _ _ _ _ _ => (pg_name (i := 6) sc_Setup_what_holds.nd rfl (Or.inl rfl))) (fun _ _ _ _ _ => pts_nil) (fun _ _ _ _ _ => (pe_dget (lt_units hr.units) (pe_fld (pv 0) rfl) (pv 6) (fun _ _ => rfl)))) pa_nil)))
      (pss_cons (ps_set (i := 8) sc_Setup_what_holds.nd rfl (Or.inl rfl) (pe_ifExp (PW.pt (pw_and (pt_truth (pe_fld (pv 0) rfl) (fun _ => rfl)) (pw_and1 (pt_cmpR (op_inS (neg := false) (Z := ⟨K, κ⟩) (hu70 hr) rfl) (pe_ix ix_tup (pe_fld (pv 0) rfl) pe_int (fun _ _ => rfl)) (pe_glob (v := .ref a_FILLS) rfl GT_FILLS.g rfl) rfl)))) (pe_fld (pv 0) rfl) (pe_tup pa_nil)))
      (pss_one (ps_ret (pe_tup (pa_cons (pe_callTy call_tuple_of (by rfl) T.n_tuple (by decide +kernel) (pa_cons (pv 1) pa_nil)) (pa_cons (pv 7) (pa_cons (pe_callTy call_tuple_of (by rfl) T.n_tuple (by decide +kernel) (pa_cons (pv 2) pa_nil)) (pa_cons (pv 8) (pa_cons (pe_fld (pv 0) rfl) pa_nil)))))))))))))), ok_body (Z := ⟨K, κ⟩) (O := []) (js_seq (js_asg (j_newLo (jf_lst ja_nil)) (jg_name nin nofun))
      (js_seq (js_asg (j_newLo (jf_lst ja_nil)) (jg_name nin nofun))
      (js_seq (js_for (ji_tup xS (j_fldI CT_World.t (.tail _ (.tail _ (.tail _ (.head _)))) (j_fldI CT_Setup.t (.head _) (j_var nin)))) (jg_tup (jg_cons (jg_name nin nofun) (jg_cons (jg_name nin nofun) jg_nil))) (js_for (ji_tup xS (j_callV via_id (ja_cons (j_var nin) (ja_cons (j_var nin) ja_nil)) (len_cons (len_cons (fun _ _ _ _ h => len_nil h))))) (jg_name nin nofun) (js_appLo (j_var nin) (ja_cons (j_tup (ja_cons (j_var nin) (ja_cons (j_var nin) ja_nil))) ja_nil))))
      (js_seq (js_for (ji_tup xS (j_fldI CT_World.t (.tail _ (.tail _ (.head _))) (j_fldI CT_Setup.t (.head _) (j_var nin)))) (jg_name nin nofun) (js_seq (js_if (jb_B (j_din (j_var nin) (JD.w (j_fldI CT_Setup.t (.tail _ (.tail _ (.tail _ (.tail _ (.head _))))) (j_var nin))))) (js_appLo (j_var nin) (ja_cons (j_tup (ja_cons (j_var nin) (ja_cons j_str (ja_cons (j_dget (JD.w (j_fldI CT_Setup.t (.tail _ (.tail _ (.tail _ (.tail _ (.head _))))) (j_var nin))) (j_var nin)) ja_nil)))) ja_nil)) js_next)
      (js_if (jb_B (j_din (j_var nin) (JD.w (j_fldI CT_Setup.t (.tail _ (.tail _ (.tail _ (.head _)))) (j_var nin))))) (js_appLo (j_var nin) (ja_cons (j_tup (ja_cons (j_var nin) (ja_cons j_str (ja_cons j_str ja_nil)))) ja_nil)) js_next)))
      (js_seq (js_asg (j_cb c_tuple (ja_consW (JD.w (j_lc (ji_tup xCo (j_fldI CT_World.t (.tail _ (.tail _ (.head _))) (j_fldI CT_Setup.t (.head _) (j_var nin)))) (jg_name nin (fun w e => by cases e; decide)) jb_yes (j_dget (JD.w (j_fldI CT_Setup.t (.tail _ (.tail _ (.head _))) (j_var nin))) (j_var nin)))) ja_nil)) (jg_name nin nofun))
      (js_seq (js_asg (j_if (jb_and (jb_tru (j_fldI CT_Setup.t (.tail _ (.tail _ (.tail _ (.tail _ (.tail _ (.head _)))))) (j_var nin))) (jb_test (j_op upD (r_inS (neg := false)) (j_op upD r_ixT (j_fldI CT_Setup.t (.tail _ (.tail _ (.tail _ (.tail _ (.tail _ (.head _)))))) (j_var nin)) j_int) (JD.w (j_c GT_FILLS.isD))))) (j_fldI CT_Setup.t (.tail _ (.tail _ (.tail _ (.tail _ (.tail _ (.head _)))))) (j_var nin)) (j_tup ja_nil)) (jg_name nin nofun))
      (js_ret (JD.w (j_tup (ja_cons (j_cb c_tupleLo (ja_cons (j_var nin) ja_nil)) (ja_cons (j_var nin) (ja_cons (j_cb c_tupleLo (ja_cons (j_var nin) ja_nil)) (ja_cons (j_var nin) (ja_cons (j_fldI CT_Setup.t (.tail _ (.tail _ (.tail _ (.tail _ (.tail _ (.tail _ (.head _))))))) (j_var nin)) ja_nil)))))))))))))) (fun _ m => absurd m List.not_mem_nil) h⟩)
theorem ok__is_part {f : Addr} {fd : FuncData} (F : Fun K "_is_part" "_is_part" s__is_part f fd) (T : TxD2 mg) (CT_World : ClsI K mg ⟨K, κ⟩ "World" "World" ["narrow", "wide", "columns", "programs"]) (cL_editions_of : Cal P w K mg base 1 "editions_of" P_editions_of (spD ⟨K, κ⟩ 2 L_editions_of)) (cL_is_plain_part : Cal P w K mg base 3 "is_plain_part" P_is_plain_part (spD ⟨K, κ⟩ 2 L_is_plain_part)) : FnOk P w K mg base CX0 4 f fd P__is_part (spD ⟨K, κ⟩ 3 L__is_part) := by
  obtain ⟨f_editions_of, fd_editions_of, G_editions_of, b_editions_of, g_editions_of, k_editions_of⟩ := cL_editions_of
  obtain ⟨f_is_plain_part, fd_is_plain_part, G_is_plain_part, b_is_plain_part, g_is_plain_part, k_is_plain_part⟩ := cL_is_plain_part
  exact F.ok sc__is_part (fun vs H Q E h => h.1) (fun cdv A outer s H vs Q E hr h => ⟨_, (pss_cons (ps_if (pt_cmpR op_eq (pv 1) pe_str (nomark _)) (pss_one (ps_ret (pe_cmpR (op_inS (neg := false) (Z := ⟨K, κ⟩) (hu70 hr) rfl) (pv 2) (pe_fld (pv 0) rfl) rfl))) pss_nil)
      (pss_cons (ps_if (pt_cmpR op_eq (pv 1) pe_str (nomark _)) (pss_one (ps_ret (pe_cmpR (op_neD hr.units) (pe_call G_editions_of (hr.mono (by decide)) rfl g_editions_of k_editions_of b_editions_of .nil pass0 (pa_cons (pv 0) (pa_cons (pv 2) pa_nil))) (pe_tup pa_nil) (nomark _)))) pss_nil)
      (pss_one (ps_ret (pe_call G_is_plain_part (hr.mono (by decide)) rfl g_is_plain_part k_is_plain_part b_is_plain_part .nil pass0 (pa_cons (pv 1) (pa_cons (pv 2) pa_nil))))))), ok_body (Z := ⟨K, κ⟩) (O := []) (js_seq (js_if (jb_test (j_op upD r_eq (j_var nin) j_str)) (js_ret (JD.w (j_op upD (r_inS (neg := false)) (j_var nin) (JD.w (j_fldI CT_World.t (.tail _ (.tail _ (.head _))) (j_var nin)))))) js_next)
      (js_seq (js_if (jb_test (j_op upD r_eq (j_var nin) j_str)) (js_ret (JD.w (j_op upW r_neD (JD.w (j_callV via_id (ja_cons (j_var nin) (ja_cons (j_var nin) ja_nil)) (len_cons (len_cons (fun _ _ _ _ h => len_nil h))))) (JD.w (j_tup ja_nil))))) js_next)
      (js_ret (JD.w (j_callV via_id (ja_cons (j_var nin) (ja_cons (j_var nin) ja_nil)) (len_cons (len_cons (fun _ _ _ _ h => len_nil h)))))))) (fun _ m => absurd m List.not_mem_nil) h⟩)
theorem ok_are_parts {f : Addr} {fd : FuncData} (F : Fun K "are_parts" "are_parts" s_are_parts f fd) (T : TxD2 mg) (cL__is_part : Cal P w K mg base 4 "_is_part" P__is_part (spD ⟨K, κ⟩ 3 L__is_part)) : FnOk P w K mg base CX0 5 f fd P_are_parts (spD ⟨K, κ⟩ 3 L_are_parts) := by
  obtain ⟨f__is_part, fd__is_part, G__is_part, b__is_part, g__is_part, k__is_part⟩ := cL__is_part
  exact F.ok sc_are_parts (fun vs H Q E h => h.1) (fun cdv A outer s H vs Q E hr h => ⟨_, (pss_cons (ps_if (pt_cmpR op_ne (pe_callB call_len_seq (by rfl) T.n_len (by decide +kernel) (pa_cons (pv 2) pa_nil)) (pe_callB call_len_seq (by rfl) T.n_len (by decide +kernel) (pa_cons (pv 1) pa_nil)) (nomark _)) (pss_one (ps_ret pe_bl)) pss_nil)
      (pss_one (ps_ret (pe_callB (cr_all rfl) (by rfl) T.n_all (by decide +kernel) (pa_cons (pe_lc (own := [("part", 3), ("item", 4)]) (g := (gTup _ 2 (gCons (gName 3) (gCons (gName 4) gNil)))) (tt := tYes) rfl sc_are_parts.nd (pi_zipG rfl T.n_zip (pa_cons (pv 1) (pa_cons (pv 2) pa_nil))) (blkOk_by (N := N_are_parts) (sc := defScope s_are_parts) (by decide +kernel)) (fun _ _ _ _ _ => (pg_tup rfl (pgs_cons (pg_name (i := 3) sc_are_parts.nd rfl (Or.inl rfl)) (pgs_cons (pg_name (i := 4) sc_are_parts.nd rfl (Or.inl rfl)) pgs_nil)))) (fun _ _ _ _ _ => pts_nil) (fun _ _ _ _ _ => (pe_call G__is_part (hr.mono (by decide)) rfl g__is_part k__is_part b__is_part .nil pass0 (pa_cons (pv 0) (pa_cons (pv 3) (pa_cons (pv 4) pa_nil)))))) pa_nil))))), ok_body (Z := ⟨K, κ⟩) (O := []) (js_seq (js_if (jb_test (j_op upD r_ne (j_cb c_len (ja_consW (JD.w (j_var nin)) ja_nil)) (j_cb c_len (ja_consW (JD.w (j_var nin)) ja_nil)))) (js_ret (JD.w j_bl)) js_next)
      (js_ret (JD.w (j_cb c_all (ja_consW (JD.w (j_lc (ji_zipG xCo (ja_cons (j_var nin) (ja_cons (j_var nin) ja_nil))) (jg_tup (jg_cons (jg_name nin (fun w e => by cases e; decide)) (jg_cons (jg_name nin (fun w e => by cases e; decide)) jg_nil))) jb_yes (j_callV via_id (ja_cons (j_var nin) (ja_cons (j_var nin) (ja_cons (j_var nin) ja_nil))) (len_cons (len_cons (len_cons (fun _ _ _ _ h => len_nil h))))))) ja_nil))))) (fun _ m => absurd m List.not_mem_nil) h⟩)
theorem ok_is_step {f : Addr} {fd : FuncData} (F : Fun K "is_step" "is_step" s_is_step f fd) (T : TxD2 mg) (cL_step_form : Cal P w K mg base 2 "step_form" P_step_form (spD ⟨K, κ⟩ 1 L_step_form)) (cL_are_parts : Cal P w K mg base 5 "are_parts" P_are_parts (spD ⟨K, κ⟩ 3 L_are_parts)) : FnOk P w K mg base CX0 6 f fd P_is_step (spD ⟨K, κ⟩ 2 L_is_step) := by
  obtain ⟨f_step_form, fd_step_form, G_step_form, b_step_form, g_step_form, k_step_form⟩ := cL_step_form
  obtain ⟨f_are_parts, fd_are_parts, G_are_parts, b_are_parts, g_are_parts, k_are_parts⟩ := cL_are_parts
  exact F.ok sc_is_step (fun vs H Q E h => h.1) (fun cdv A outer s H vs Q E hr h => ⟨_, (pss_cons (ps_set (i := 2) sc_is_step.nd rfl (Or.inl rfl) (pe_call G_step_form (hr.mono (by decide)) rfl g_step_form k_step_form b_step_form .nil pass0 (pa_cons (pv 1) pa_nil)))
      (pss_one (ps_ret (pe_and (pe_cmpR op_notN (pv 2) pe_non (nomark _)) (pe_one (pe_call G_are_parts (hr.mono (by decide)) rfl g_are_parts k_are_parts b_are_parts .nil pass0 (pa_cons (pv 0) (pa_cons (pv 2) (pa_cons (pe_slice sl_tupA (pv 1) (po_some pe_int) po_none) pa_nil))))))))), ok_body (Z := ⟨K, κ⟩) (O := []) (js_seq (js_asg (j_callV via_id (ja_cons (j_var nin) ja_nil) (len_cons (fun _ _ _ _ h => len_nil h))) (jg_name nin nofun))
      (js_ret (JD.w (j_andV (j_op upD r_notN (j_var nin) j_non) (j_callV via_id (ja_cons (j_var nin) (ja_cons (j_var nin) (ja_cons (j_slT (j_var nin) (jo_some j_int) jo_none) ja_nil))) (len_cons (len_cons (len_cons (fun _ _ _ _ h => len_nil h))))))))) (fun _ m => absurd m List.not_mem_nil) h⟩)
theorem ok_moments {f : Addr} {fd : FuncData} (F : Fun K "moments" "moments" s_moments f fd) (T : TxD2 mg) (TN : TxN mg n_MOST_LETTERS n_MOST_STEPS n_LEAST_NUMBERS n_LEAST_NARROW n_MOST_PACE n_MOST_IN_TWO_EVENTS) (cL_is_fit : Cal P w K mg base 4 "is_fit" P_is_fit (spD ⟨K, κ⟩ 2 L_is_fit)) (cL_is_tuple_of : Cal P w K mg base 1 "is_tuple_of" P_is_tuple_of (spD ⟨K, κ⟩ 3 L_is_tuple_of)) (cL_Setup___init__ : MkI P w K mg base ⟨K, κ⟩ 1 "Setup" "Setup" P_Setup___init__ (spD ⟨K, κ⟩ 3 L_Setup___init__)) (cL_Setup_what_holds : MeI P w K mg base ⟨K, κ⟩ 2 "Setup" "what_holds" P_Setup_what_holds (spD ⟨K, κ⟩ 1 L_Setup_what_holds)) (CT_Setup : ClsI K mg ⟨K, κ⟩ "Setup" "Setup" ["world", "editions", "sides", "ups", "downs", "going", "span", "lasts"]) (cL_is_step : Cal P w K mg base 6 "is_step" P_is_step (spD ⟨K, κ⟩ 2 L_is_step)) (cL_Setup_behind_begin : MeI P w K mg base ⟨K, κ⟩ 6 "Setup" "behind_begin" P_Setup_behind_begin (spD ⟨K, κ⟩ 2 L_Setup_behind_begin)) (cL_Setup_behind_end : MeI P w K mg base ⟨K, κ⟩ 4 "Setup" "behind_end" P_Setup_behind_end (spD ⟨K, κ⟩ 1 L_Setup_behind_end)) : FnOk P w K mg base CX0 7 f fd P_moments (spD ⟨K, κ⟩ 3 L_moments) := by
  obtain ⟨f_is_fit, fd_is_fit, G_is_fit, b_is_fit, g_is_fit, k_is_fit⟩ := cL_is_fit
  obtain ⟨f_is_tuple_of, fd_is_tuple_of, G_is_tuple_of, b_is_tuple_of, g_is_tuple_of, k_is_tuple_of⟩ := cL_is_tuple_of
  obtain ⟨f_Setup, fd_Setup, MK_Setup, G_Setup, b_Setup, g_Setup⟩ := cL_Setup___init__
  obtain ⟨f_Setup_what_holds, fd_Setup_what_holds, M_Setup_what_holds, G_Setup_what_holds, b_Setup_what_holds⟩ := cL_Setup_what_holds
  obtain ⟨f_is_step, fd_is_step, G_is_step, b_is_step, g_is_step, k_is_step⟩ := cL_is_step
  obtain ⟨f_Setup_behind_begin, fd_Setup_behind_begin, M_Setup_behind_begin, G_Setup_behind_begin, b_Setup_behind_begin⟩ := cL_Setup_behind_begin
  obtain ⟨f_Setup_behind_end, fd_Setup_behind_end, M_Setup_behind_end, G_Setup_behind_end, b_Setup_behind_end⟩ := cL_Setup_behind_end
  exact F.ok sc_moments (fun vs H Q E h => h.1) (fun cdv A outer s H vs Q E hr h => ⟨_, (pss_cons (ps_if (pt_not (pt_val (pe_call G_is_fit (hr.mono (by decide)) rfl g_is_fit k_is_fit b_is_fit .nil pass0 (pa_cons (pv 0) (pa_cons (pv 1) pa_nil))))) (pss_one ps_never) pss_nil)
      (pss_cons (ps_if (pt_not (pt_val (pe_call G_is_tuple_of (hr.mono (by decide)) rfl g_is_tuple_of k_is_tuple_of b_is_tuple_of .nil pass0 (pa_cons (pv 2) (pa_cons pe_int (pa_cons (pe_glob (v := .int 14) rfl TN.g_MOST_STEPS ⟨_, rfl⟩) pa_nil)))))) (pss_one ps_never) pss_nil)
      (pss_cons (ps_set (i := 3) sc_moments.nd rfl (Or.inl rfl) (pe_make MK_Setup G_Setup (hr.mono (by decide)) rfl g_Setup b_Setup .nil pass0 (pa_cons (pv 0) (pa_cons (pv 1) pa_nil))))
      (pss_cons (ps_set (i := 4) sc_moments.nd rfl (Or.inl rfl) (pe_lst (pa_cons (pe_meth0 (pv 3) CT_Setup.t.cl M_Setup_what_holds G_Setup_what_holds (hr.mono (by decide)) b_Setup_what_holds .nil pass0) pa_nil)))
      (pss_cons (ps_for PassesOwn.never rfl (pi_enumG rfl T.n_enumerate (pa_cons (pv 2) pa_nil)) (pg_tup rfl (pgs_cons (pg_name (i := 5) sc_moments.nd rfl (Or.inl rfl)) (pgs_cons (pg_name (i := 6) sc_moments.nd rfl (Or.inl rfl)) pgs_nil))) (pss_cons (ps_set (i := 3) sc_moments.nd rfl (Or.inl rfl) (pe_ifExp (pt_val (pe_call G_is_step (hr.mono (by decide)) rfl g_is_step k_is_step b_is_step .nil pass0 (pa_cons (pv 0) (pa_cons (pv 6) pa_nil)))) (pe_meth (pv 3) CT_Setup.t.cl M_Setup_behind_begin G_Setup_behind_begin (hr.mono (by decide)) b_Setup_behind_begin .nil pass0 (pa_cons (pv 6) pa_nil)) pe_non))
      (pss_cons (ps_if (pt_cmpR op_isN (pv 3) pe_non (nomark _)) (pss_one ps_never) pss_nil)
      (pss_cons (ps_expr (pe_bm PySem.F.plainAttrs_list PySem.F.slot_list_append PySem.F.type_list_append mt_append (pv 4) (pa_cons (pe_meth0 (pv 3) CT_Setup.t.cl M_Setup_what_holds G_Setup_what_holds (hr.mono (by decide)) b_Setup_what_holds .nil pass0) pa_nil)))
      (pss_one (ps_if (pt_truth (pe_fld (pv 3) rfl) (fun _ => rfl)) (pss_cons (ps_set (i := 3) sc_moments.nd rfl (Or.inl rfl) (pe_meth0 (pv 3) CT_Setup.t.cl M_Setup_behind_end G_Setup_behind_end (hr.mono (by decide)) b_Setup_behind_end .nil pass0))
      (pss_one (ps_expr (pe_bm PySem.F.plainAttrs_list PySem.F.slot_list_append PySem.F.type_list_append mt_append (pv 4) (pa_cons (pe_meth0 (pv 3) CT_Setup.t.cl M_Setup_what_holds G_Setup_what_holds (hr.mono (by decide)) b_Setup_what_holds .nil pass0) pa_nil))))) pss_nil))))))
      (pss_one (ps_ret (pe_callTy call_tuple_of (by rfl) T.n_tuple (by decide +kernel) (pa_cons (pv 4) pa_nil))))))))), ok_body (Z := ⟨K, κ⟩) (O := []) (js_seq (js_if (jb_not (jb_B (j_callV via_id (ja_cons (j_var nin) (ja_cons (j_var nin) ja_nil)) (len_cons (len_cons (fun _ _ _ _ h => len_nil h)))))) js_never js_next)
      (js_seq (js_if (jb_not (jb_B (j_callV via_id (ja_cons (j_var nin) (ja_cons j_int (ja_cons j_int ja_nil))) (len_cons (len_cons (len_cons (fun _ _ _ _ h => len_nil h))))))) js_never js_next)
      (js_seq (js_asg (j_makeV mk_F (ja_cons (j_var nin) (ja_cons (j_var nin) ja_nil)) (len_cons (len_cons (fun _ _ _ _ h => len_nil h)))) (jg_name nin nofun))
      (js_seq (js_asg (j_newLo (jf_lst (ja_cons (j_meth via_id (j_var nin) ja_nil (fun _ _ _ _ h => len_nil h)) ja_nil))) (jg_name nin nofun))
      (js_seq (js_for (ji_enumG xS (ja_cons (j_var nin) ja_nil)) (jg_tup (jg_cons (jg_name nin nofun) (jg_cons (jg_name nin nofun) jg_nil))) (js_seq (js_asg (j_if (jb_B (j_callV via_id (ja_cons (j_var nin) (ja_cons (j_var nin) ja_nil)) (len_cons (len_cons (fun _ _ _ _ h => len_nil h))))) (j_meth via_F (j_var nin) (ja_cons (j_var nin) ja_nil) (len_cons (fun _ _ _ _ h => len_nil h))) j_non) (jg_name nin nofun))
      (js_seq (js_if (jb_test (j_op upD r_isN (j_var nin) j_non)) js_never js_next)
      (js_seq (js_appLo (j_var nin) (ja_cons (j_meth via_id (j_var nin) ja_nil (fun _ _ _ _ h => len_nil h)) ja_nil))
      (js_if (jb_tru (j_fldI CT_Setup.t (.tail _ (.tail _ (.tail _ (.tail _ (.tail _ (.head _)))))) (j_var nin))) (js_seq (js_asg (j_meth via_F (j_var nin) ja_nil (fun _ _ _ _ h => len_nil h)) (jg_name nin nofun))
      (js_appLo (j_var nin) (ja_cons (j_meth via_id (j_var nin) ja_nil (fun _ _ _ _ h => len_nil h)) ja_nil))) js_next)))))
      (js_ret (JD.w (j_cb c_tupleLo (ja_cons (j_var nin) ja_nil))))))))) (fun _ m => absurd m List.not_mem_nil) h⟩)
theorem ok_momentsX {f : Addr} {fd : FuncData} (F : Fun K "moments" "moments" s_moments f fd) (T : TxD2 mg) (TN : TxN mg n_MOST_LETTERS n_MOST_STEPS n_LEAST_NUMBERS n_LEAST_NARROW n_MOST_PACE n_MOST_IN_TWO_EVENTS) (EX_BadSpan : ExT K mg CW (κ "BadSpan") "BadSpan" "value") (cE_BadSpan : CalI P w K mg base (κ "BadSpan") "value" P_BadSpan___init__) (EX_BadPlan : ExT K mg CW (κ "BadPlan") "BadPlan" "index") (cE_BadPlan : CalI P w K mg base (κ "BadPlan") "index" P_BadPlan___init__) (cL_is_fit : Cal P w K mg base 4 "is_fit" P_is_fit (spD ⟨K, κ⟩ 2 L_is_fit)) (cL_is_tuple_of : Cal P w K mg base 1 "is_tuple_of" P_is_tuple_of (spD ⟨K, κ⟩ 3 L_is_tuple_of)) (cL_Setup___init__ : MkI P w K mg base ⟨K, κ⟩ 1 "Setup" "Setup" P_Setup___init__ (spD ⟨K, κ⟩ 3 L_Setup___init__)) (cL_Setup_what_holds : MeI P w K mg base ⟨K, κ⟩ 2 "Setup" "what_holds" P_Setup_what_holds (spD ⟨K, κ⟩ 1 L_Setup_what_holds)) (CT_Setup : ClsI K mg ⟨K, κ⟩ "Setup" "Setup" ["world", "editions", "sides", "ups", "downs", "going", "span", "lasts"]) (cL_is_step : Cal P w K mg base 6 "is_step" P_is_step (spD ⟨K, κ⟩ 2 L_is_step)) (cL_Setup_behind_begin : MeI P w K mg base ⟨K, κ⟩ 6 "Setup" "behind_begin" P_Setup_behind_begin (spD ⟨K, κ⟩ 2 L_Setup_behind_begin)) (cL_Setup_behind_end : MeI P w K mg base ⟨K, κ⟩ 4 "Setup" "behind_end" P_Setup_behind_end (spD ⟨K, κ⟩ 1 L_Setup_behind_end)) : FnOk P w K mg base (L2.CX P w) 7 f fd P_moments (spD ⟨K, κ⟩ 3 L_momentsX) := by
  obtain ⟨f_is_fit, fd_is_fit, G_is_fit, b_is_fit, g_is_fit, k_is_fit⟩ := cL_is_fit
  obtain ⟨f_is_tuple_of, fd_is_tuple_of, G_is_tuple_of, b_is_tuple_of, g_is_tuple_of, k_is_tuple_of⟩ := cL_is_tuple_of
  obtain ⟨f_Setup, fd_Setup, MK_Setup, G_Setup, b_Setup, g_Setup⟩ := cL_Setup___init__
  obtain ⟨f_Setup_what_holds, fd_Setup_what_holds, M_Setup_what_holds, G_Setup_what_holds, b_Setup_what_holds⟩ := cL_Setup_what_holds
  obtain ⟨f_is_step, fd_is_step, G_is_step, b_is_step, g_is_step, k_is_step⟩ := cL_is_step
  obtain ⟨f_Setup_behind_begin, fd_Setup_behind_begin, M_Setup_behind_begin, G_Setup_behind_begin, b_Setup_behind_begin⟩ := cL_Setup_behind_begin
  obtain ⟨f_Setup_behind_end, fd_Setup_behind_end, M_Setup_behind_end, G_Setup_behind_end, b_Setup_behind_end⟩ := cL_Setup_behind_end
  obtain ⟨f_BadSpan, fd_BadSpan, i_BadSpan, t_BadSpan, G_BadSpan, b_BadSpan⟩ := cE_BadSpan
  obtain ⟨f_BadPlan, fd_BadPlan, i_BadPlan, t_BadPlan, G_BadPlan, b_BadPlan⟩ := cE_BadPlan
  exact F.okX sc_moments (fun vs H Q E h => h.1) (fun cdv A outer s H vs Q E hr h => ⟨_, (pss_cons (ps_if (pt_not (pt_val (pe_call G_is_fit (hr.mono (by decide)) rfl g_is_fit k_is_fit b_is_fit .nil pass0 (pa_cons (pv 0) (pa_cons (pv 1) pa_nil))))) (pss_one (ps_raise rfl (takes_of rfl rfl rfl rfl) (pmk_oex EX_BadSpan.ox i_BadSpan t_BadSpan G_BadSpan (hr.mono (by decide)) b_BadSpan .nil pass0 rfl EX_BadSpan.g (pa_cons (pv 1) pa_nil)))) pss_nil)
      (pss_cons (ps_if (pt_not (pt_val (pe_call G_is_tuple_of (hr.mono (by decide)) rfl g_is_tuple_of k_is_tuple_of b_is_tuple_of .nil pass0 (pa_cons (pv 2) (pa_cons pe_int (pa_cons (pe_glob (v := .int 14) rfl TN.g_MOST_STEPS ⟨_, rfl⟩) pa_nil)))))) (pss_one (ps_raise rfl (takes_of rfl rfl rfl rfl) (pmk_oex EX_BadPlan.ox i_BadPlan t_BadPlan G_BadPlan (hr.mono (by decide)) b_BadPlan .nil pass0 rfl EX_BadPlan.g (pa_cons pe_non pa_nil)))) pss_nil)
      (pss_cons (ps_set (i := 3) sc_moments.nd rfl (Or.inl rfl) (pe_make MK_Setup G_Setup (hr.mono (by decide)) rfl g_Setup b_Setup .nil pass0 (pa_cons (pv 0) (pa_cons (pv 1) pa_nil))))
      (pss_cons (ps_set (i := 4) sc_moments.nd rfl (Or.inl rfl) (pe_lst (pa_cons (pe_meth0 (pv 3) CT_Setup.t.cl M_Setup_what_holds G_Setup_what_holds (hr.mono (by decide)) b_Setup_what_holds .nil pass0) pa_nil)))
      (pss_cons (ps_for (passes_of rfl) rfl (pi_enumG rfl T.n_enumerate (pa_cons (pv 2) pa_nil)) (pg_tup rfl (pgs_cons (pg_name (i := 5) sc_moments.nd rfl (Or.inl rfl)) (pgs_cons (pg_name (i := 6) sc_moments.nd rfl (Or.inl rfl)) pgs_nil))) (pss_cons (ps_set (i := 3) sc_moments.nd rfl (Or.inl rfl) (pe_ifExp (pt_val (pe_call G_is_step (hr.mono (by decide)) rfl g_is_step k_is_step b_is_step .nil pass0 (pa_cons (pv 0) (pa_cons (pv 6) pa_nil)))) (pe_meth (pv 3) CT_Setup.t.cl M_Setup_behind_begin G_Setup_behind_begin (hr.mono (by decide)) b_Setup_behind_begin .nil pass0 (pa_cons (pv 6) pa_nil)) pe_non))
      (pss_cons (ps_if (pt_cmpR op_isN (pv 3) pe_non (nomark _)) (pss_one (ps_raise rfl (takes_of rfl rfl rfl rfl) (pmk_oex EX_BadPlan.ox i_BadPlan t_BadPlan G_BadPlan (hr.mono (by decide)) b_BadPlan .nil pass0 rfl EX_BadPlan.g (pa_cons (pv 5) pa_nil)))) pss_nil)
      (pss_cons (ps_expr (pe_bm PySem.F.plainAttrs_list PySem.F.slot_list_append PySem.F.type_list_append mt_append (pv 4) (pa_cons (pe_meth0 (pv 3) CT_Setup.t.cl M_Setup_what_holds G_Setup_what_holds (hr.mono (by decide)) b_Setup_what_holds .nil pass0) pa_nil)))
      (pss_one (ps_if (pt_truth (pe_fld (pv 3) rfl) (fun _ => rfl)) (pss_cons (ps_set (i := 3) sc_moments.nd rfl (Or.inl rfl) (pe_meth0 (pv 3) CT_Setup.t.cl M_Setup_behind_end G_Setup_behind_end (hr.mono (by decide)) b_Setup_behind_end .nil pass0))
      (pss_one (ps_expr (pe_bm PySem.F.plainAttrs_list PySem.F.slot_list_append PySem.F.type_list_append mt_append (pv 4) (pa_cons (pe_meth0 (pv 3) CT_Setup.t.cl M_Setup_what_holds G_Setup_what_holds (hr.mono (by decide)) b_Setup_what_holds .nil pass0) pa_nil))))) pss_nil))))))
      (pss_one (ps_ret (pe_callTy call_tuple_of (by rfl) T.n_tuple (by decide +kernel) (pa_cons (pv 4) pa_nil))))))))), ok_body (Z := ⟨K, κ⟩) (O := []) (js_seq (js_if (jb_not (jb_B (j_callV via_id (ja_cons (j_var nin) (ja_cons (j_var nin) ja_nil)) (len_cons (len_cons (fun _ _ _ _ h => len_nil h)))))) (js_raise rfl (ja_cons (j_var nin) ja_nil)) js_next)
      (js_seq (js_if (jb_not (jb_B (j_callV via_id (ja_cons (j_var nin) (ja_cons j_int (ja_cons j_int ja_nil))) (len_cons (len_cons (len_cons (fun _ _ _ _ h => len_nil h))))))) (js_raise rfl (ja_cons j_non ja_nil)) js_next)
      (js_seq (js_asg (j_makeV mk_F (ja_cons (j_var nin) (ja_cons (j_var nin) ja_nil)) (len_cons (len_cons (fun _ _ _ _ h => len_nil h)))) (jg_name nin nofun))
      (js_seq (js_asg (j_newLo (jf_lst (ja_cons (j_meth via_id (j_var nin) ja_nil (fun _ _ _ _ h => len_nil h)) ja_nil))) (jg_name nin nofun))
      (js_seq (js_for (ji_enumG xS (ja_cons (j_var nin) ja_nil)) (jg_tup (jg_cons (jg_name nin nofun) (jg_cons (jg_name nin nofun) jg_nil))) (js_seq (js_asg (j_if (jb_B (j_callV via_id (ja_cons (j_var nin) (ja_cons (j_var nin) ja_nil)) (len_cons (len_cons (fun _ _ _ _ h => len_nil h))))) (j_meth via_F (j_var nin) (ja_cons (j_var nin) ja_nil) (len_cons (fun _ _ _ _ h => len_nil h))) j_non) (jg_name nin nofun))
      (js_seq (js_if (jb_test (j_op upD r_isN (j_var nin) j_non)) (js_raise rfl (ja_cons (j_var nin) ja_nil)) js_next)
      (js_seq (js_appLo (j_var nin) (ja_cons (j_meth via_id (j_var nin) ja_nil (fun _ _ _ _ h => len_nil h)) ja_nil))
      (js_if (jb_tru (j_fldI CT_Setup.t (.tail _ (.tail _ (.tail _ (.tail _ (.tail _ (.head _)))))) (j_var nin))) (js_seq (js_asg (j_meth via_F (j_var nin) ja_nil (fun _ _ _ _ h => len_nil h)) (jg_name nin nofun))
      (js_appLo (j_var nin) (ja_cons (j_meth via_id (j_var nin) ja_nil (fun _ _ _ _ h => len_nil h)) ja_nil))) js_next)))))
      (js_ret (JD.w (j_cb c_tupleLo (ja_cons (j_var nin) ja_nil))))))))) (fun _ m => absurd m List.not_mem_nil) h⟩)
theorem ok__law_pot_of {f : Addr} {fd : FuncData} (F : Fun K "_law_pot_of" "_law_pot_of" s__law_pot_of f fd) (T : TxD2 mg) : FnOk P w K mg base CX0 1 f fd P__law_pot_of (spD ⟨K, κ⟩ 2 L__law_pot_of) := by
  exact F.ok sc__law_pot_of (fun vs H Q E h => h.1) (fun cdv A outer s H vs Q E hr h => ⟨_, (pss_cons (ps_set (i := 2) sc__law_pot_of.nd rfl (Or.inl rfl) (pe_ifExp (pt_cmpR op_lt (pv 1) (pe_callB call_len_seq (by rfl) T.n_len (by decide +kernel) (pa_cons (pv 0) pa_nil)) (nomark _)) (pe_ix ix_list (pv 0) (pv 1) (fun _ _ => rfl)) (pe_op op_add (pe_op op_mul pe_int (pv 1)) pe_int)))
      (pss_cons (ps_set (i := 3) sc__law_pot_of.nd rfl (Or.inl rfl) (pe_op op_mul (pe_op op_mod (pe_callTy call_int1 (by rfl) T.n_int (by decide +kernel) (pa_cons (pe_callB call_abs (by rfl) T.n_abs (by decide +kernel) (pa_cons (pv 2) pa_nil)) pa_nil)) (pe_op op_powZ (pe_op op_pow pe_int pe_int) pe_int)) (pe_callTy call_int1 (by rfl) T.n_int (by decide +kernel) (pa_cons (pe_cmpR op_ge (pe_callB call_abs (by rfl) T.n_abs (by decide +kernel) (pa_cons (pv 2) pa_nil)) (pe_op op_pow pe_int pe_int) (nomark _)) pa_nil))))
      (pss_one (ps_ret (pe_lst (pa_cons (pv 3) (pa_cons (pe_op op_mod (pe_op op_add (pe_op op_add (pe_op op_mul (pe_op op_mod (pe_callTy call_int1 (by rfl) T.n_int (by decide +kernel) (pa_cons (pv 2) pa_nil)) pe_int) pe_int) (pe_op op_mul (pe_op op_mul pe_int (pv 1)) (pv 1))) pe_int) pe_int) (pa_cons pe_int pa_nil)))))))), ok_body (Z := ⟨K, κ⟩) (O := []) (js_seq (js_asg (j_if (jb_test (j_op upD r_lt (j_var nin) (j_cb c_len (ja_consW (JD.w (j_var nin)) ja_nil)))) (j_op upD r_ixSc (j_var nin) (j_var nin)) (j_op upD r_add (j_op upD r_mul j_int (j_var nin)) j_int)) (jg_name nin nofun))
      (js_seq (js_asg (j_op upD r_mul (j_op upD r_mod (j_cb c_int (ja_cons (j_cb c_abs (ja_cons (j_var nin) ja_nil)) ja_nil)) (j_op upD r_powZ (j_op upD r_pow j_int j_int) j_int)) (j_cb c_int (ja_cons (j_op upD r_ge (j_cb c_abs (ja_cons (j_var nin) ja_nil)) (j_op upD r_pow j_int j_int)) ja_nil))) (jg_name nin nofun))
      (js_retLo (jf_lst (ja_cons (j_var nin) (ja_cons (j_op upD r_mod (j_op upD r_add (j_op upD r_add (j_op upD r_mul (j_op upD r_mod (j_cb c_int (ja_cons (j_var nin) ja_nil)) j_int) j_int) (j_op upD r_mul (j_op upD r_mul j_int (j_var nin)) (j_var nin))) j_int) j_int) (ja_cons j_int ja_nil))))))) (fun _ m => absurd m List.not_mem_nil) h⟩)
theorem ok__law_take {f : Addr} {fd : FuncData} (F : Fun K "_law_take" "_law_take" s__law_take f fd) (T : TxD2 mg) : FnOk P w K mg base CX0 1 f fd P__law_take (spD ⟨K, κ⟩ 2 L__law_take) := by
  exact F.ok sc__law_take (fun vs H Q E h => h.1) (fun cdv A outer s H vs Q E hr h => ⟨_, (pss_cons (ps_if (pt_cmpR op_gt (pe_ix ix_list (pv 0) pe_int (fun _ _ => rfl)) pe_int (nomark _)) (pss_cons (ps_set (i := 2) sc__law_take.nd rfl (Or.inl rfl) (pe_op op_mod (pe_callTy call_int1 (by rfl) T.n_int (by decide +kernel) (pa_cons (pe_ix ix_list (pv 0) pe_int (fun _ _ => rfl)) pa_nil)) (pv 1)))
      (pss_cons (ps_asg (pe_op op_fdivW (pe_ix ix_list (pv 0) pe_int (fun _ _ => rfl)) (pv 1)) (pg_sub (pv 0) pe_int set_list))
      (pss_one (ps_ret (pv 2))))) pss_nil)
      (pss_cons (ps_asg (pe_op op_add (pe_ix ix_list (pv 0) pe_int (fun _ _ => rfl)) pe_int) (pg_sub (pv 0) pe_int set_list))
      (pss_cons (ps_set (i := 3) sc__law_take.nd rfl (Or.inl rfl) (pe_ix ix_list (pe_lst (pa_cons pe_int (pa_cons pe_int (pa_cons pe_int (pa_cons pe_int (pa_cons pe_int pa_nil)))))) (pe_op op_mod (pe_callTy call_int1 (by rfl) T.n_int (by decide +kernel) (pa_cons (pe_ix ix_list (pv 0) pe_int (fun _ _ => rfl)) pa_nil)) pe_int) (fun _ _ => rfl)))
      (pss_cons (ps_set (i := 4) sc__law_take.nd rfl (Or.inl rfl) (pe_op op_mod (pe_op op_pow (pe_callTy call_int1 (by rfl) T.n_int (by decide +kernel) (pa_cons (pe_op op_add (pe_op op_add (pe_ix ix_list (pv 0) pe_int (fun _ _ => rfl)) (pe_op op_mul (pe_op op_mul pe_int (pe_ix ix_list (pv 0) pe_int (fun _ _ => rfl))) (pe_ix ix_list (pv 0) pe_int (fun _ _ => rfl)))) pe_int) pa_nil)) pe_int) (pv 3)))
      (pss_one (ps_ret (pe_op op_mod (pe_op op_fdivW (pe_op op_mod (pe_callTy call_int1 (by rfl) T.n_int (by decide +kernel) (pa_cons (pe_op op_mul (pv 4) (pe_op op_add (pe_op op_mod (pe_callTy call_int1 (by rfl) T.n_int (by decide +kernel) (pa_cons (pv 4) pa_nil)) pe_int) (pe_op op_mul pe_int (pe_ix ix_list (pv 0) pe_int (fun _ _ => rfl))))) pa_nil)) pe_int) pe_int) (pv 1)))))))), ok_body (Z := ⟨K, κ⟩) (O := []) (js_seq (js_if (jb_test (j_op upD r_gt (j_op upD r_ixLo (j_var nin) j_int) j_int)) (js_seq (js_asg (j_op upD r_mod (j_cb c_int (ja_cons (j_op upD r_ixLo (j_var nin) j_int) ja_nil)) (j_var nin)) (jg_name nin nofun))
      (js_seq (js_setLo nin j_int (j_op upD r_div (j_op upD r_ixLo (j_var nin) j_int) (j_var nin)))
      (js_ret (JD.w (j_var nin))))) js_next)
      (js_seq (js_setLo nin j_int (j_op upD r_add (j_op upD r_ixLo (j_var nin) j_int) j_int))
      (js_seq (js_asg (j_op upW r_ixL (JD.w (j_lst (ja_cons j_int (ja_cons j_int (ja_cons j_int (ja_cons j_int (ja_cons j_int ja_nil))))))) (j_op upD r_mod (j_cb c_int (ja_cons (j_op upD r_ixLo (j_var nin) j_int) ja_nil)) j_int)) (jg_name nin nofun))
      (js_seq (js_asg (j_op upD r_mod (j_op upD r_pow (j_cb c_int (ja_cons (j_op upD r_add (j_op upD r_add (j_op upD r_ixLo (j_var nin) j_int) (j_op upD r_mul (j_op upD r_mul j_int (j_op upD r_ixLo (j_var nin) j_int)) (j_op upD r_ixLo (j_var nin) j_int))) j_int) ja_nil)) j_int) (j_var nin)) (jg_name nin nofun))
      (js_ret (JD.w (j_op upD r_mod (j_op upD r_div (j_op upD r_mod (j_cb c_int (ja_cons (j_op upD r_mul (j_var nin) (j_op upD r_add (j_op upD r_mod (j_cb c_int (ja_cons (j_var nin) ja_nil)) j_int) (j_op upD r_mul j_int (j_op upD r_ixLo (j_var nin) j_int)))) ja_nil)) j_int) j_int) (j_var nin)))))))) (fun _ m => absurd m List.not_mem_nil) h⟩)
theorem ok__law_of {f : Addr} {fd : FuncData} (F : Fun K "_law_of" "_law_of" s__law_of f fd) (T : TxD2 mg) (cL__law_take : Cal P w K mg base 1 "_law_take" P__law_take (spD ⟨K, κ⟩ 2 L__law_take)) : FnOk P w K mg base CX0 2 f fd P__law_of (spD ⟨K, κ⟩ 2 L__law_of) := by
  obtain ⟨f__law_take, fd__law_take, G__law_take, b__law_take, g__law_take, k__law_take⟩ := cL__law_take
  exact F.ok sc__law_of (fun vs H Q E h => h.1) (fun cdv A outer s H vs Q E hr h => ⟨_, (pss_one (ps_ret (pe_ix ix_list (pv 1) (pe_call G__law_take (hr.mono (by decide)) rfl g__law_take k__law_take b__law_take .nil pass0 (pa_cons (pv 0) (pa_cons (pe_callB call_len_seq (by rfl) T.n_len (by decide +kernel) (pa_cons (pv 1) pa_nil)) pa_nil))) (fun _ _ => rfl)))), ok_body (Z := ⟨K, κ⟩) (O := []) (js_ret (JD.w (j_op upW r_ixL (JD.w (j_var nin)) (j_callV via_id (ja_cons (j_var nin) (ja_cons (j_cb c_len (ja_consW (JD.w (j_var nin)) ja_nil)) ja_nil)) (len_cons (len_cons (fun _ _ _ _ h => len_nil h))))))) (fun _ m => absurd m List.not_mem_nil) h⟩)
theorem ok__law_hand_world {f : Addr} {fd : FuncData} (F : Fun K "_law_hand_world" "_law_hand_world" s__law_hand_world f fd) (T : TxD2 mg) (cL_World___init__ : MkI P w K mg base ⟨K, κ⟩ 7 "World" "World" P_World___init__ (spD ⟨K, κ⟩ 5 L_World___init__)) (cL_Kind___init__ : MkI P w K mg base ⟨K, κ⟩ 2 "Kind" "Kind" P_Kind___init__ (spD ⟨K, κ⟩ 3 L_Kind___init__)) : FnOk P w K mg base CX0 9 f fd P__law_hand_world (spD ⟨K, κ⟩ 1 L__law_hand_world) := by
  obtain ⟨f_World, fd_World, MK_World, G_World, b_World, g_World⟩ := cL_World___init__
  obtain ⟨f_Kind, fd_Kind, MK_Kind, G_Kind, b_Kind, g_Kind⟩ := cL_Kind___init__
  exact F.ok sc__law_hand_world (fun vs H Q E h => h.1) (fun cdv A outer s H vs Q E hr h => ⟨_, (pss_cons (ps_asg (pv 0) (pg_tup rfl (pgs_cons (pg_name (i := 1) sc__law_hand_world.nd rfl (Or.inl rfl)) (pgs_cons (pg_name (i := 2) sc__law_hand_world.nd rfl (Or.inl rfl)) (pgs_cons (pg_name (i := 3) sc__law_hand_world.nd rfl (Or.inl rfl)) (pgs_cons (pg_name (i := 4) sc__law_hand_world.nd rfl (Or.inl rfl)) pgs_nil))))))
      (pss_cons (ps_set (i := 5) sc__law_hand_world.nd rfl (Or.inl rfl) (pe_tup (pa_cons (pe_tup (pa_cons pe_str (pa_cons (pe_tup pa_nil) (pa_cons (pe_tup pa_nil) pa_nil)))) (pa_cons (pe_tup (pa_cons pe_str (pa_cons (pe_tup pa_nil) (pa_cons (pe_tup pa_nil) pa_nil)))) (pa_cons (pe_tup (pa_cons pe_str (pa_cons (pe_tup pa_nil) (pa_cons (pe_tup pa_nil) pa_nil)))) pa_nil)))))
      (pss_one (ps_ret (pe_make MK_World G_World (hr.mono (by decide)) rfl g_World b_World .nil pass0 (pa_cons (pe_make MK_Kind G_Kind (hr.mono (by decide)) rfl g_Kind b_Kind .nil pass0 (pa_cons pe_int (pa_cons pe_int pa_nil))) (pa_cons (pe_make MK_Kind G_Kind (hr.mono (by decide)) rfl g_Kind b_Kind .nil pass0 (pa_cons pe_int (pa_cons pe_int pa_nil))) (pa_cons (pe_tup (pa_cons (pv 1) (pa_cons (pv 2) pa_nil))) (pa_cons (pe_tup (pa_cons (pe_tup (pa_cons (pv 3) (pa_cons (pv 5) pa_nil))) (pa_cons (pe_tup (pa_cons (pv 4) (pa_cons (pe_slice sl_tupA (pv 5) po_none (po_some pe_int)) pa_nil))) pa_nil))) pa_nil))))))))), ok_body (Z := ⟨K, κ⟩) (O := []) (js_seq (js_asg (j_var nin) (jg_tup (jg_cons (jg_name nin nofun) (jg_cons (jg_name nin nofun) (jg_cons (jg_name nin nofun) (jg_cons (jg_name nin nofun) jg_nil))))))
      (js_seq (js_asg (j_tup (ja_cons (j_tup (ja_cons j_str (ja_cons (j_tup ja_nil) (ja_cons (j_tup ja_nil) ja_nil)))) (ja_cons (j_tup (ja_cons j_str (ja_cons (j_tup ja_nil) (ja_cons (j_tup ja_nil) ja_nil)))) (ja_cons (j_tup (ja_cons j_str (ja_cons (j_tup ja_nil) (ja_cons (j_tup ja_nil) ja_nil)))) ja_nil)))) (jg_name nin nofun))
      (js_ret (JD.w (j_makeV mk_F (ja_cons (j_makeV mk_F (ja_cons j_int (ja_cons j_int ja_nil)) (len_cons (len_cons (fun _ _ _ _ h => len_nil h)))) (ja_cons (j_makeV mk_F (ja_cons j_int (ja_cons j_int ja_nil)) (len_cons (len_cons (fun _ _ _ _ h => len_nil h)))) (ja_cons (j_tup (ja_cons (j_var nin) (ja_cons (j_var nin) ja_nil))) (ja_cons (j_tup (ja_cons (j_tup (ja_cons (j_var nin) (ja_cons (j_var nin) ja_nil))) (ja_cons (j_tup (ja_cons (j_var nin) (ja_cons (j_slT (j_var nin) jo_none (jo_some j_int)) ja_nil))) ja_nil))) ja_nil)))) (len_cons (len_cons (len_cons (len_cons (fun _ _ _ _ h => len_nil h)))))))))) (fun _ m => absurd m List.not_mem_nil) h⟩)
theorem ok__law_names {f : Addr} {fd : FuncData} (F : Fun K "_law_names" "_law_names" s__law_names f fd) (T : TxD2 mg) (cL__law_of : Cal P w K mg base 2 "_law_of" P__law_of (spD ⟨K, κ⟩ 2 L__law_of)) : FnOk P w K mg base CX0 3 f fd P__law_names (spD ⟨K, κ⟩ 1 L__law_names) := by
  obtain ⟨f__law_of, fd__law_of, G__law_of, b__law_of, g__law_of, k__law_of⟩ := cL__law_of
  exact F.ok sc__law_names (fun vs H Q E h => h.1) (fun cdv A outer s H vs Q E hr h => ⟨_, (pss_cons (ps_set (i := 1) sc__law_names.nd rfl (Or.inl rfl) (pe_call G__law_of (hr.mono (by decide)) rfl g__law_of k__law_of b__law_of .nil pass0 (pa_cons (pv 0) (pa_cons (pe_lst (pa_cons (pe_tup (pa_cons pe_str (pa_cons pe_str pa_nil))) (pa_cons (pe_tup (pa_cons pe_str (pa_cons pe_str pa_nil))) (pa_cons (pe_tup (pa_cons pe_str (pa_cons pe_str pa_nil))) (pa_cons (pe_tup (pa_cons pe_str (pa_cons pe_str pa_nil))) pa_nil))))) pa_nil))))
      (pss_one (ps_ret (pe_op op_catA (pv 1) (pe_call G__law_of (hr.mono (by decide)) rfl g__law_of k__law_of b__law_of .nil pass0 (pa_cons (pv 0) (pa_cons (pe_lst (pa_cons (pe_tup (pa_cons pe_str (pa_cons pe_str pa_nil))) (pa_cons (pe_tup (pa_cons pe_str (pa_cons pe_str pa_nil))) (pa_cons (pe_tup (pa_cons pe_str (pa_cons pe_str pa_nil))) (pa_cons (pe_tup (pa_cons pe_str (pa_cons pe_str pa_nil))) pa_nil))))) pa_nil))))))), ok_body (Z := ⟨K, κ⟩) (O := []) (js_seq (js_asg (j_callV via_id (ja_cons (j_var nin) (ja_cons (j_lst (ja_cons (j_tup (ja_cons j_str (ja_cons j_str ja_nil))) (ja_cons (j_tup (ja_cons j_str (ja_cons j_str ja_nil))) (ja_cons (j_tup (ja_cons j_str (ja_cons j_str ja_nil))) (ja_cons (j_tup (ja_cons j_str (ja_cons j_str ja_nil))) ja_nil))))) ja_nil)) (len_cons (len_cons (fun _ _ _ _ h => len_nil h)))) (jg_name nin nofun))
      (js_ret (JD.w (j_op upD r_catT (j_var nin) (j_callV via_id (ja_cons (j_var nin) (ja_cons (j_lst (ja_cons (j_tup (ja_cons j_str (ja_cons j_str ja_nil))) (ja_cons (j_tup (ja_cons j_str (ja_cons j_str ja_nil))) (ja_cons (j_tup (ja_cons j_str (ja_cons j_str ja_nil))) (ja_cons (j_tup (ja_cons j_str (ja_cons j_str ja_nil))) ja_nil))))) ja_nil)) (len_cons (len_cons (fun _ _ _ _ h => len_nil h)))))))) (fun _ m => absurd m List.not_mem_nil) h⟩)
theorem ok__law_releases_right {f : Addr} {fd : FuncData} (F : Fun K "_law_releases_right" "_law_releases_right" s__law_releases_right f fd) (T : TxD2 mg) (cL_moments : Cal P w K mg base 7 "moments" P_moments (spD ⟨K, κ⟩ 3 L_moments)) (cL__law_refused : Cal P w K mg base 8 "_law_refused" P__law_refused (spD ⟨K, κ⟩ 3 L__law_refused)) : FnOk P w K mg base CX0 9 f fd P__law_releases_right (spD ⟨K, κ⟩ 2 L__law_releases_right) := by
  obtain ⟨f_moments, fd_moments, G_moments, b_moments, g_moments, k_moments⟩ := cL_moments
  obtain ⟨f__law_refused, fd__law_refused, G__law_refused, b__law_refused, g__law_refused, k__law_refused⟩ := cL__law_refused
  exact F.ok sc__law_releases_right (fun vs H Q E h => h.1) (fun cdv A outer s H vs Q E hr h => ⟨_, (pss_cons (ps_asg (pv 0) (pg_tup rfl (pgs_cons (pg_name (i := 2) sc__law_releases_right.nd rfl (Or.inl rfl)) (pgs_cons (pg_name (i := 3) sc__law_releases_right.nd rfl (Or.inl rfl)) (pgs_cons (pg_name (i := 4) sc__law_releases_right.nd rfl (Or.inl rfl)) (pgs_cons (pg_name (i := 5) sc__law_releases_right.nd rfl (Or.inl rfl)) pgs_nil))))))
      (pss_cons (ps_set (i := 6) sc__law_releases_right.nd rfl (Or.inr rfl) (pe_tup (pa_cons (pe_tup pa_nil) (pa_cons (pe_tup (pa_cons pe_int (pa_cons pe_int pa_nil))) pa_nil))))
      (pss_cons (ps_par (i := 7) (j := 8) rfl sc__law_releases_right.nd rfl rfl (by decide) rfl rfl (pa_cons (pe_tup (pa_cons pe_str (pa_cons (pv 4) pa_nil))) (pa_cons (pe_tup (pa_cons pe_str (pa_cons (pv 4) pa_nil))) pa_nil)) (by rfl))
      (pss_cons (ps_set (i := 9) sc__law_releases_right.nd rfl (Or.inr rfl) (pe_tup (pa_cons pe_str (pa_cons pe_str pa_nil))))
      (pss_cons (ps_set (i := 10) sc__law_releases_right.nd rfl (Or.inl rfl) (pe_lst (pa_cons (pe_tup (pa_cons (pe_tup (pa_cons (pv 4) (pa_cons pe_int pa_nil))) (pa_cons (pe_tup (pa_cons (pv 5) (pa_cons pe_int pa_nil))) pa_nil))) (pa_cons (pe_tup (pa_cons (pe_tup (pa_cons (pv 4) (pa_cons pe_int pa_nil))) (pa_cons (pe_tup (pa_cons (pv 4) (pa_cons pe_int pa_nil))) (pa_cons (pe_tup (pa_cons (pv 5) (pa_cons pe_int pa_nil))) pa_nil)))) (pa_cons (pe_tup (pa_cons (pe_tup (pa_cons (pv 4) (pa_cons pe_int pa_nil))) (pa_cons (pe_tup (pa_cons (pv 5) (pa_cons pe_int pa_nil))) pa_nil))) pa_nil)))))
      (pss_cons (ps_set (i := 11) sc__law_releases_right.nd rfl (Or.inl rfl) (pe_tup (pa_cons (pe_tup (pa_cons (pv 4) (pa_cons pe_int pa_nil))) (pa_cons (pe_tup (pa_cons (pv 4) (pa_cons pe_int pa_nil))) (pa_cons (pe_tup (pa_cons (pv 5) (pa_cons pe_int pa_nil))) pa_nil)))))
      (pss_cons (ps_set (i := 10) sc__law_releases_right.nd rfl (Or.inl rfl) (pe_op op_cat (pv 10) (pe_lst (pa_cons (pv 11) (pa_cons (pe_tup (pa_cons (pe_tup (pa_cons (pv 4) (pa_cons pe_int pa_nil))) (pa_cons (pe_tup (pa_cons (pv 5) (pa_cons pe_int pa_nil))) pa_nil))) (pa_cons (pv 11) pa_nil))))))
      (pss_cons (ps_set (i := 12) sc__law_releases_right.nd rfl (Or.inl rfl) (pe_call G_moments (hr.mono (by decide)) rfl g_moments k_moments b_moments .nil pass0 (pa_cons (pv 1) (pa_cons (pe_tup (pa_cons pe_int (pa_cons pe_int pa_nil))) (pa_cons (pe_tup (pa_cons (pv 7) (pa_cons (pv 7) (pa_cons (pv 8) pa_nil)))) pa_nil)))))
      (pss_cons (ps_if (pt_cmpR (op_neD hr.units) (pv 12) (pe_callTy call_tuple_of (by rfl) T.n_tuple (by decide +kernel) (pa_cons (pe_lc (own := [("_law_running", 13)]) (g := (gName 13)) (tt := tYes) rfl sc__law_releases_right.nd (pi_list (pe_op op_cat (pv 10) (pe_lst (pa_cons (pe_ix ix_list (pv 10) pe_int (fun _ _ => rfl)) pa_nil)))) (blkOk_by (N := N__law_releases_right) (sc := defScope s__law_releases_right) (by decide +kernel)) (fun _ _ _ _ _ => (pg_name (i := 13) sc__law_releases_right.nd rfl (Or.inl rfl))) (fun _ _ _ _ _ => pts_nil) (fun _ _ _ _ _ => (pe_op op_catA (pe_tup (pa_cons (pv 13) (pa_cons (pv 9) (pa_cons (pe_tup pa_nil) pa_nil)))) (pv 6)))) pa_nil)) (nomark _)) (pss_one (ps_ret pe_bl)) pss_nil)
      (pss_cons (ps_if (PW.pt (pw_or (pt_cmpR op_ne (pe_call G__law_refused (hr.mono (by decide)) rfl g__law_refused k__law_refused b__law_refused .nil pass0 (pa_cons (pv 1) (pa_cons (pe_tup (pa_cons pe_int (pa_cons pe_int pa_nil))) (pa_cons (pe_op op_repT (pe_tup (pa_cons (pv 7) pa_nil)) pe_int) pa_nil)))) pe_int (nomark _)) (pw_or1 (pt_cmpR op_ne (pe_call G__law_refused (hr.mono (by decide)) rfl g__law_refused k__law_refused b__law_refused .nil pass0 (pa_cons (pv 1) (pa_cons (pe_tup (pa_cons pe_int (pa_cons pe_int pa_nil))) (pa_cons (pe_tup (pa_cons (pv 8) pa_nil)) pa_nil)))) pe_int (nomark _))))) (pss_one (ps_ret pe_bl)) pss_nil)
      (pss_one (ps_ret (pe_cmpR op_eq (pe_call G__law_refused (hr.mono (by decide)) rfl g__law_refused k__law_refused b__law_refused .nil pass0 (pa_cons (pv 1) (pa_cons (pe_tup (pa_cons pe_int (pa_cons pe_int pa_nil))) (pa_cons (pe_tup (pa_cons (pv 7) (pa_cons (pe_tup (pa_cons pe_str (pa_cons (pv 5) pa_nil))) pa_nil))) pa_nil)))) pe_int (nomark _)))))))))))))), ok_body (Z := ⟨K, κ⟩) (O := []) (js_seq (js_asg (j_var nin) (jg_tup (jg_cons (jg_name nin nofun) (jg_cons (jg_name nin nofun) (jg_cons (jg_name nin nofun) (jg_cons (jg_name nin nofun) jg_nil))))))
      (js_seq (js_asg (j_tup (ja_cons (j_tup ja_nil) (ja_cons (j_tup (ja_cons j_int (ja_cons j_int ja_nil))) ja_nil))) (jg_name nin nofun))
      (js_seq (js_par nin nin (ja_cons (j_tup (ja_cons j_str (ja_cons (j_var nin) ja_nil))) (ja_cons (j_tup (ja_cons j_str (ja_cons (j_var nin) ja_nil))) ja_nil)))
      (js_seq (js_asg (j_tup (ja_cons j_str (ja_cons j_str ja_nil))) (jg_name nin nofun))
      (js_seq (js_asg (j_lst (ja_cons (j_tup (ja_cons (j_tup (ja_cons (j_var nin) (ja_cons j_int ja_nil))) (ja_cons (j_tup (ja_cons (j_var nin) (ja_cons j_int ja_nil))) ja_nil))) (ja_cons (j_tup (ja_cons (j_tup (ja_cons (j_var nin) (ja_cons j_int ja_nil))) (ja_cons (j_tup (ja_cons (j_var nin) (ja_cons j_int ja_nil))) (ja_cons (j_tup (ja_cons (j_var nin) (ja_cons j_int ja_nil))) ja_nil)))) (ja_cons (j_tup (ja_cons (j_tup (ja_cons (j_var nin) (ja_cons j_int ja_nil))) (ja_cons (j_tup (ja_cons (j_var nin) (ja_cons j_int ja_nil))) ja_nil))) ja_nil)))) (jg_name nin nofun))
      (js_seq (js_asg (j_tup (ja_cons (j_tup (ja_cons (j_var nin) (ja_cons j_int ja_nil))) (ja_cons (j_tup (ja_cons (j_var nin) (ja_cons j_int ja_nil))) (ja_cons (j_tup (ja_cons (j_var nin) (ja_cons j_int ja_nil))) ja_nil)))) (jg_name nin nofun))
      (js_seq (js_asg (j_op upW r_catL (JD.w (j_var nin)) (JD.w (j_lst (ja_cons (j_var nin) (ja_cons (j_tup (ja_cons (j_tup (ja_cons (j_var nin) (ja_cons j_int ja_nil))) (ja_cons (j_tup (ja_cons (j_var nin) (ja_cons j_int ja_nil))) ja_nil))) (ja_cons (j_var nin) ja_nil)))))) (jg_name nin nofun))
      (js_seq (js_asg (j_callV via_F (ja_cons (j_var nin) (ja_cons (j_tup (ja_cons j_int (ja_cons j_int ja_nil))) (ja_cons (j_tup (ja_cons (j_var nin) (ja_cons (j_var nin) (ja_cons (j_var nin) ja_nil)))) ja_nil))) (len_cons (len_cons (len_cons (fun _ _ _ _ h => len_nil h))))) (jg_name nin nofun))
      (js_seq (js_if (jb_test (j_op upW r_neD (JD.w (j_var nin)) (JD.w (j_cb c_tuple (ja_consW (JD.w (j_lc (ji_list xCo (j_op upW r_catL (JD.w (j_var nin)) (JD.w (j_lst (ja_cons (j_op upW r_ixL (JD.w (j_var nin)) j_int) ja_nil))))) (jg_name nin (fun w e => by cases e; decide)) jb_yes (j_op upD r_catT (j_tup (ja_cons (j_var nin) (ja_cons (j_var nin) (ja_cons (j_tup ja_nil) ja_nil)))) (j_var nin)))) ja_nil))))) (js_ret (JD.w j_bl)) js_next)
      (js_seq (js_if (jb_or (jb_test (j_op upD r_ne (j_callV via_id (ja_cons (j_var nin) (ja_cons (j_tup (ja_cons j_int (ja_cons j_int ja_nil))) (ja_cons (j_op upD r_repT (j_tup (ja_cons (j_var nin) ja_nil)) j_int) ja_nil))) (len_cons (len_cons (len_cons (fun _ _ _ _ h => len_nil h))))) j_int)) (jb_test (j_op upD r_ne (j_callV via_id (ja_cons (j_var nin) (ja_cons (j_tup (ja_cons j_int (ja_cons j_int ja_nil))) (ja_cons (j_tup (ja_cons (j_var nin) ja_nil)) ja_nil))) (len_cons (len_cons (len_cons (fun _ _ _ _ h => len_nil h))))) j_int))) (js_ret (JD.w j_bl)) js_next)
      (js_ret (JD.w (j_op upD r_eq (j_callV via_id (ja_cons (j_var nin) (ja_cons (j_tup (ja_cons j_int (ja_cons j_int ja_nil))) (ja_cons (j_tup (ja_cons (j_var nin) (ja_cons (j_tup (ja_cons j_str (ja_cons (j_var nin) ja_nil))) ja_nil))) ja_nil))) (len_cons (len_cons (len_cons (fun _ _ _ _ h => len_nil h))))) j_int))))))))))))) (fun _ m => absurd m List.not_mem_nil) h⟩)
theorem ok__law_sides_right {f : Addr} {fd : FuncData} (F : Fun K "_law_sides_right" "_law_sides_right" s__law_sides_right f fd) (T : TxD2 mg) (cL_moments : Cal P w K mg base 7 "moments" P_moments (spD ⟨K, κ⟩ 3 L_moments)) (kL_moments_0_1_2_1 : CalKw P w K mg base 7 "moments" P_moments ["span", "plan"] 1 [0, 1, 2] (spD ⟨K, κ⟩ 3 L_moments)) (cL__law_refused : Cal P w K mg base 8 "_law_refused" P__law_refused (spD ⟨K, κ⟩ 3 L__law_refused)) : FnOk P w K mg base CX0 9 f fd P__law_sides_right (spD ⟨K, κ⟩ 2 L__law_sides_right) := by
  obtain ⟨f_moments, fd_moments, G_moments, b_moments, g_moments, k_moments⟩ := cL_moments
  obtain ⟨f_moments_0_1_2_1, fd_moments_0_1_2_1, G_moments_0_1_2_1, b_moments_0_1_2_1, g_moments_0_1_2_1, k_moments_0_1_2_1⟩ := kL_moments_0_1_2_1
  obtain ⟨f__law_refused, fd__law_refused, G__law_refused, b__law_refused, g__law_refused, k__law_refused⟩ := cL__law_refused
  exact F.ok sc__law_sides_right (fun vs H Q E h => h.1) (fun cdv A outer s H vs Q E hr h => ⟨_, (pss_cons (ps_asg (pv 0) (pg_tup rfl (pgs_cons (pg_name (i := 2) sc__law_sides_right.nd rfl (Or.inl rfl)) (pgs_cons (pg_name (i := 3) sc__law_sides_right.nd rfl (Or.inl rfl)) (pgs_cons (pg_name (i := 4) sc__law_sides_right.nd rfl (Or.inl rfl)) (pgs_cons (pg_name (i := 5) sc__law_sides_right.nd rfl (Or.inl rfl)) pgs_nil))))))
      (pss_cons (ps_set (i := 6) sc__law_sides_right.nd rfl (Or.inl rfl) (pe_tup (pa_cons (pe_tup (pa_cons (pv 4) (pa_cons pe_int pa_nil))) (pa_cons (pe_tup (pa_cons (pv 5) (pa_cons pe_int pa_nil))) pa_nil))))
      (pss_cons (ps_set (i := 7) sc__law_sides_right.nd rfl (Or.inr rfl) (pe_tup (pa_cons (pe_tup (pa_cons pe_str (pa_cons (pv 3) pa_nil))) (pa_cons (pe_tup (pa_cons pe_str (pa_cons (pv 3) pa_nil))) (pa_cons (pe_tup (pa_cons pe_str (pa_cons (pv 3) (pa_cons pe_str pa_nil)))) (pa_cons (pe_tup (pa_cons pe_str (pa_cons (pv 2) pa_nil))) (pa_cons (pe_tup (pa_cons pe_str (pa_cons (pv 2) (pa_cons pe_str pa_nil)))) pa_nil)))))))
      (pss_cons (ps_set (i := 8) sc__law_sides_right.nd rfl (Or.inl rfl) (pe_call G_moments (hr.mono (by decide)) rfl g_moments k_moments b_moments .nil pass0 (pa_cons (pv 1) (pa_cons (pe_tup (pa_cons pe_int (pa_cons pe_int pa_nil))) (pa_cons (pv 7) pa_nil)))))
      (pss_cons (ps_set (i := 9) sc__law_sides_right.nd rfl (Or.inl rfl) (pe_tup (pa_cons (pe_tup (pa_cons (pv 2) (pa_cons pe_str (pa_cons pe_str pa_nil)))) (pa_cons (pe_tup (pa_cons (pv 3) (pa_cons pe_str (pa_cons pe_str pa_nil)))) (pa_cons (pe_tup (pa_cons (pv 3) (pa_cons pe_str (pa_cons pe_str pa_nil)))) pa_nil)))))
      (pss_cons (ps_if (PW.pt (pw_or (pt_cmpR (op_neD hr.units) (pe_ix ix_tup (pv 8) (pe_un un_neg pe_int) (fun _ _ => rfl)) (pe_tup (pa_cons (pv 6) (pa_cons (pe_tup (pa_cons pe_str (pa_cons pe_str pa_nil))) (pa_cons (pv 9) (pa_cons (pe_tup pa_nil) (pa_cons (pe_tup (pa_cons pe_int (pa_cons pe_int pa_nil))) pa_nil)))))) (nomark _)) (pw_or1 (pt_cmpR op_ne (pe_callB call_len_seq (by rfl) T.n_len (by decide +kernel) (pa_cons (pv 8) pa_nil)) pe_int (nomark _))))) (pss_one (ps_ret pe_bl)) pss_nil)
      (pss_cons (ps_set (i := 10) sc__law_sides_right.nd rfl (Or.inl rfl) (pe_tup (pa_cons pe_str (pa_cons (pv 3) (pa_cons pe_str (pa_cons pe_str pa_nil))))))
      (pss_cons (ps_set (i := 11) sc__law_sides_right.nd rfl (Or.inl rfl) (pe_op op_catA (pe_slice sl_tupA (pe_ix ix_tup (pv 8) (pe_un un_neg pe_int) (fun _ _ => rfl)) po_none (po_some pe_int)) (pe_tup (pa_cons (pv 10) (pa_cons (pe_tup (pa_cons pe_int (pa_cons pe_int pa_nil))) pa_nil)))))
      (pss_cons (ps_if (pt_cmpR (op_neD hr.units) (pe_slice sl_tupA (pe_callK G_moments_0_1_2_1 (hr.mono (by decide)) rfl g_moments_0_1_2_1 k_moments_0_1_2_1 b_moments_0_1_2_1 pass0 (pa_cons (pv 1) pa_nil) (pk_cons (pe_tup (pa_cons pe_int (pa_cons pe_int pa_nil))) (pk_cons (pe_op op_catA (pv 7) (pe_tup (pa_cons (pv 10) pa_nil))) pk_nil))) (po_some (pe_un un_neg pe_int)) po_none) (pe_tup (pa_cons (pv 11) (pa_cons (pe_ix ix_tup (pv 8) (pe_un un_neg pe_int) (fun _ _ => rfl)) pa_nil))) (nomark _)) (pss_one (ps_ret pe_bl)) pss_nil)
      (pss_cons (ps_set (i := 12) sc__law_sides_right.nd rfl (Or.inl rfl) (pe_lst (pa_cons (pe_tup (pa_cons pe_str (pa_cons (pv 3) (pa_cons pe_str pa_nil)))) (pa_cons (pe_tup (pa_cons pe_str (pa_cons (pv 3) pa_nil))) (pa_cons (pe_tup (pa_cons pe_str (pa_cons (pv 3) pa_nil))) (pa_cons (pe_tup (pa_cons pe_str (pa_cons (pv 3) (pa_cons pe_str pa_nil)))) (pa_cons (pe_tup (pa_cons pe_str (pa_cons (pv 2) pa_nil))) pa_nil)))))))
      (pss_cons (ps_if (pt_cmpR (op_neD hr.units) (pe_lc (own := [("_law_step", 13)]) (g := (gName 13)) (tt := tYes) rfl sc__law_sides_right.nd (pi_list (pv 12)) (blkOk_by (N := N__law_sides_right) (sc := defScope s__law_sides_right) (by decide +kernel)) (fun _ _ _ _ _ => (pg_name (i := 13) sc__law_sides_right.nd rfl (Or.inl rfl))) (fun _ _ _ _ _ => pts_nil) (fun _ _ _ _ _ => (pe_call G__law_refused (hr.mono (by decide)) rfl g__law_refused k__law_refused b__law_refused .nil pass0 (pa_cons (pv 1) (pa_cons (pe_tup (pa_cons pe_int (pa_cons pe_int pa_nil))) (pa_cons (pe_op op_catA (pv 7) (pe_tup (pa_cons (pv 13) pa_nil))) pa_nil)))))) (pe_op op_rep (pe_lst (pa_cons pe_int pa_nil)) pe_int) (nomark _)) (pss_one (ps_ret pe_bl)) pss_nil)
      (pss_cons (ps_set (i := 7) sc__law_sides_right.nd rfl (Or.inr rfl) (pe_op op_catA (pv 7) (pe_tup (pa_cons (pe_tup (pa_cons pe_str (pa_cons (pv 3) pa_nil))) (pa_cons (pe_tup (pa_cons pe_str (pa_cons (pv 3) pa_nil))) (pa_cons (pe_tup (pa_cons pe_str (pa_cons (pv 3) (pa_cons pe_str pa_nil)))) pa_nil))))))
      (pss_cons (ps_if (pt_cmpR (op_neD hr.units) (pe_ix ix_tup (pe_call G_moments (hr.mono (by decide)) rfl g_moments k_moments b_moments .nil pass0 (pa_cons (pv 1) (pa_cons (pe_tup (pa_cons pe_int (pa_cons pe_int pa_nil))) (pa_cons (pv 7) pa_nil)))) (pe_un un_neg pe_int) (fun _ _ => rfl)) (pe_tup (pa_cons (pv 6) (pa_cons (pe_tup (pa_cons pe_str (pa_cons pe_str pa_nil))) (pa_cons (pe_slice sl_tupA (pv 9) po_none (po_some pe_int)) (pa_cons (pe_tup pa_nil) (pa_cons (pe_tup (pa_cons pe_int (pa_cons pe_int pa_nil))) pa_nil)))))) (nomark _)) (pss_one (ps_ret pe_bl)) pss_nil)
      (pss_cons (ps_set (i := 12) sc__law_sides_right.nd rfl (Or.inl rfl) (pe_lst (pa_cons (pe_tup (pa_cons pe_str (pa_cons (pv 3) pa_nil))) (pa_cons (pe_tup (pa_cons pe_str (pa_cons (pv 3) (pa_cons pe_str pa_nil)))) (pa_cons (pe_tup (pa_cons pe_str (pa_cons (pv 3) (pa_cons pe_str pa_nil)))) (pa_cons (pe_tup (pa_cons pe_str (pa_cons (pv 3) pa_nil))) pa_nil))))))
      (pss_one (ps_ret (pe_cmpR (op_eqD hr.units) (pe_lc (own := [("_law_step", 13)]) (g := (gName 13)) (tt := tYes) rfl sc__law_sides_right.nd (pi_list (pv 12)) (blkOk_by (N := N__law_sides_right) (sc := defScope s__law_sides_right) (by decide +kernel)) (fun _ _ _ _ _ => (pg_name (i := 13) sc__law_sides_right.nd rfl (Or.inl rfl))) (fun _ _ _ _ _ => pts_nil) (fun _ _ _ _ _ => (pe_call G__law_refused (hr.mono (by decide)) rfl g__law_refused k__law_refused b__law_refused .nil pass0 (pa_cons (pv 1) (pa_cons (pe_tup (pa_cons pe_int (pa_cons pe_int pa_nil))) (pa_cons (pe_op op_catA (pv 7) (pe_tup (pa_cons (pv 13) pa_nil))) pa_nil)))))) (pe_op op_rep (pe_lst (pa_cons pe_int pa_nil)) pe_int) (nomark _)))))))))))))))))), ok_body (Z := ⟨K, κ⟩) (O := []) (js_seq (js_asg (j_var nin) (jg_tup (jg_cons (jg_name nin nofun) (jg_cons (jg_name nin nofun) (jg_cons (jg_name nin nofun) (jg_cons (jg_name nin nofun) jg_nil))))))
      (js_seq (js_asg (j_tup (ja_cons (j_tup (ja_cons (j_var nin) (ja_cons j_int ja_nil))) (ja_cons (j_tup (ja_cons (j_var nin) (ja_cons j_int ja_nil))) ja_nil))) (jg_name nin nofun))
      (js_seq (js_asg (j_tup (ja_cons (j_tup (ja_cons j_str (ja_cons (j_var nin) ja_nil))) (ja_cons (j_tup (ja_cons j_str (ja_cons (j_var nin) ja_nil))) (ja_cons (j_tup (ja_cons j_str (ja_cons (j_var nin) (ja_cons j_str ja_nil)))) (ja_cons (j_tup (ja_cons j_str (ja_cons (j_var nin) ja_nil))) (ja_cons (j_tup (ja_cons j_str (ja_cons (j_var nin) (ja_cons j_str ja_nil)))) ja_nil)))))) (jg_name nin nofun))
      (js_seq (js_asg (j_callV via_F (ja_cons (j_var nin) (ja_cons (j_tup (ja_cons j_int (ja_cons j_int ja_nil))) (ja_cons (j_var nin) ja_nil))) (len_cons (len_cons (len_cons (fun _ _ _ _ h => len_nil h))))) (jg_name nin nofun))
      (js_seq (js_asg (j_tup (ja_cons (j_tup (ja_cons (j_var nin) (ja_cons j_str (ja_cons j_str ja_nil)))) (ja_cons (j_tup (ja_cons (j_var nin) (ja_cons j_str (ja_cons j_str ja_nil)))) (ja_cons (j_tup (ja_cons (j_var nin) (ja_cons j_str (ja_cons j_str ja_nil)))) ja_nil)))) (jg_name nin nofun))
      (js_seq (js_if (jb_or (jb_test (j_op upW r_neD (JD.w (j_op upD r_ixT (j_var nin) (j_un u_neg j_int))) (JD.w (j_tup (ja_cons (j_var nin) (ja_cons (j_tup (ja_cons j_str (ja_cons j_str ja_nil))) (ja_cons (j_var nin) (ja_cons (j_tup ja_nil) (ja_cons (j_tup (ja_cons j_int (ja_cons j_int ja_nil))) ja_nil))))))))) (jb_test (j_op upD r_ne (j_cb c_len (ja_consW (JD.w (j_var nin)) ja_nil)) j_int))) (js_ret (JD.w j_bl)) js_next)
      (js_seq (js_asg (j_tup (ja_cons j_str (ja_cons (j_var nin) (ja_cons j_str (ja_cons j_str ja_nil))))) (jg_name nin nofun))
      (js_seq (js_asg (j_op upD r_catT (j_slT (j_op upD r_ixT (j_var nin) (j_un u_neg j_int)) jo_none (jo_some j_int)) (j_tup (ja_cons (j_var nin) (ja_cons (j_tup (ja_cons j_int (ja_cons j_int ja_nil))) ja_nil)))) (jg_name nin nofun))
      (js_seq (js_if (jb_test (j_op upW r_neD (JD.w (j_slT (j_callK via_F (ja_cons (j_var nin) ja_nil) (ja_cons (j_tup (ja_cons j_int (ja_cons j_int ja_nil))) (ja_cons (j_op upD r_catT (j_var nin) (j_tup (ja_cons (j_var nin) ja_nil))) ja_nil))) (jo_some (j_un u_neg j_int)) jo_none)) (JD.w (j_tup (ja_cons (j_var nin) (ja_cons (j_op upD r_ixT (j_var nin) (j_un u_neg j_int)) ja_nil)))))) (js_ret (JD.w j_bl)) js_next)
      (js_seq (js_asg (j_lst (ja_cons (j_tup (ja_cons j_str (ja_cons (j_var nin) (ja_cons j_str ja_nil)))) (ja_cons (j_tup (ja_cons j_str (ja_cons (j_var nin) ja_nil))) (ja_cons (j_tup (ja_cons j_str (ja_cons (j_var nin) ja_nil))) (ja_cons (j_tup (ja_cons j_str (ja_cons (j_var nin) (ja_cons j_str ja_nil)))) (ja_cons (j_tup (ja_cons j_str (ja_cons (j_var nin) ja_nil))) ja_nil)))))) (jg_name nin nofun))
      (js_seq (js_if (jb_test (j_op upW r_neD (JD.w (j_lc (ji_list xCo (j_var nin)) (jg_name nin (fun w e => by cases e; decide)) jb_yes (j_callV via_id (ja_cons (j_var nin) (ja_cons (j_tup (ja_cons j_int (ja_cons j_int ja_nil))) (ja_cons (j_op upD r_catT (j_var nin) (j_tup (ja_cons (j_var nin) ja_nil))) ja_nil))) (len_cons (len_cons (len_cons (fun _ _ _ _ h => len_nil h))))))) (JD.w (j_op upD r_repL (j_lst (ja_cons j_int ja_nil)) j_int)))) (js_ret (JD.w j_bl)) js_next)
      (js_seq (js_asg (j_op upD r_catT (j_var nin) (j_tup (ja_cons (j_tup (ja_cons j_str (ja_cons (j_var nin) ja_nil))) (ja_cons (j_tup (ja_cons j_str (ja_cons (j_var nin) ja_nil))) (ja_cons (j_tup (ja_cons j_str (ja_cons (j_var nin) (ja_cons j_str ja_nil)))) ja_nil))))) (jg_name nin nofun))
      (js_seq (js_if (jb_test (j_op upW r_neD (JD.w (j_op upD r_ixT (j_callV via_F (ja_cons (j_var nin) (ja_cons (j_tup (ja_cons j_int (ja_cons j_int ja_nil))) (ja_cons (j_var nin) ja_nil))) (len_cons (len_cons (len_cons (fun _ _ _ _ h => len_nil h))))) (j_un u_neg j_int))) (JD.w (j_tup (ja_cons (j_var nin) (ja_cons (j_tup (ja_cons j_str (ja_cons j_str ja_nil))) (ja_cons (j_slT (j_var nin) jo_none (jo_some j_int)) (ja_cons (j_tup ja_nil) (ja_cons (j_tup (ja_cons j_int (ja_cons j_int ja_nil))) ja_nil))))))))) (js_ret (JD.w j_bl)) js_next)
      (js_seq (js_asg (j_lst (ja_cons (j_tup (ja_cons j_str (ja_cons (j_var nin) ja_nil))) (ja_cons (j_tup (ja_cons j_str (ja_cons (j_var nin) (ja_cons j_str ja_nil)))) (ja_cons (j_tup (ja_cons j_str (ja_cons (j_var nin) (ja_cons j_str ja_nil)))) (ja_cons (j_tup (ja_cons j_str (ja_cons (j_var nin) ja_nil))) ja_nil))))) (jg_name nin nofun))
      (js_ret (JD.w (j_op upW r_eqD (JD.w (j_lc (ji_list xCo (j_var nin)) (jg_name nin (fun w e => by cases e; decide)) jb_yes (j_callV via_id (ja_cons (j_var nin) (ja_cons (j_tup (ja_cons j_int (ja_cons j_int ja_nil))) (ja_cons (j_op upD r_catT (j_var nin) (j_tup (ja_cons (j_var nin) ja_nil))) ja_nil))) (len_cons (len_cons (len_cons (fun _ _ _ _ h => len_nil h))))))) (JD.w (j_op upD r_repL (j_lst (ja_cons j_int ja_nil)) j_int))))))))))))))))))) (fun _ m => absurd m List.not_mem_nil) h⟩)
theorem ok__law_numbers_right {f : Addr} {fd : FuncData} (F : Fun K "_law_numbers_right" "_law_numbers_right" s__law_numbers_right f fd) (T : TxD2 mg) (kL_moments_2_1_0_0 : CalKw P w K mg base 7 "moments" P_moments ["plan", "span", "world"] 0 [2, 1, 0] (spD ⟨K, κ⟩ 3 L_moments)) (cL__law_refused : Cal P w K mg base 8 "_law_refused" P__law_refused (spD ⟨K, κ⟩ 3 L__law_refused)) (kL_is_step_1_0_0 : CalKw P w K mg base 6 "is_step" P_is_step ["value", "world"] 0 [1, 0] (spD ⟨K, κ⟩ 2 L_is_step)) (cL_is_step : Cal P w K mg base 6 "is_step" P_is_step (spD ⟨K, κ⟩ 2 L_is_step)) : FnOk P w K mg base CX0 9 f fd P__law_numbers_right (spD ⟨K, κ⟩ 2 L__law_numbers_right) := by
  obtain ⟨f_moments_2_1_0_0, fd_moments_2_1_0_0, G_moments_2_1_0_0, b_moments_2_1_0_0, g_moments_2_1_0_0, k_moments_2_1_0_0⟩ := kL_moments_2_1_0_0
  obtain ⟨f__law_refused, fd__law_refused, G__law_refused, b__law_refused, g__law_refused, k__law_refused⟩ := cL__law_refused
  obtain ⟨f_is_step_1_0_0, fd_is_step_1_0_0, G_is_step_1_0_0, b_is_step_1_0_0, g_is_step_1_0_0, k_is_step_1_0_0⟩ := kL_is_step_1_0_0
  obtain ⟨f_is_step, fd_is_step, G_is_step, b_is_step, g_is_step, k_is_step⟩ := cL_is_step
  exact F.ok sc__law_numbers_right (fun vs H Q E h => h.1) (fun cdv A outer s H vs Q E hr h => ⟨_, (pss_cons (ps_set (i := 2) sc__law_numbers_right.nd rfl (Or.inr rfl) (pe_tup (pa_cons (pe_tup (pa_cons pe_str (pa_cons pe_int pa_nil))) (pa_cons (pe_tup (pa_cons pe_str (pa_cons pe_int pa_nil))) (pa_cons (pe_tup (pa_cons pe_str (pa_cons pe_int pa_nil))) (pa_cons (pe_tup (pa_cons pe_str (pa_cons pe_int pa_nil))) pa_nil))))))
      (pss_cons (ps_setLc (i := 3) (own := [("_law_moment", 6)]) (g := (gName 6)) (tt := tYes) rfl sc__law_numbers_right.nd rfl rfl (sw_true rfl rfl rfl (by decide +kernel)) (pi_tup (pe_callK0 G_moments_2_1_0_0 (hr.mono (by decide)) rfl g_moments_2_1_0_0 k_moments_2_1_0_0 b_moments_2_1_0_0 pass0 (pk_cons (pv 2) (pk_cons (pe_tup (pa_cons pe_int (pa_cons pe_int pa_nil))) (pk_cons (pv 1) pk_nil))))) (blkOk_by (N := N__law_numbers_right) (sc := defScope s__law_numbers_right) (by decide +kernel)) (fun _ _ _ _ _ => (pg_name (i := 6) sc__law_numbers_right.nd rfl (Or.inl rfl))) (fun _ _ _ _ _ => pts_nil) (fun _ _ _ _ _ => (pe_ix ix_tup (pv 6) pe_int (fun _ _ => rfl))))
      (pss_cons (ps_if (pt_cmpR (op_neD hr.units) (pv 3) (pe_lst (pa_cons (pe_tup (pa_cons pe_int (pa_cons pe_int pa_nil))) (pa_cons (pe_tup (pa_cons pe_int (pa_cons pe_int pa_nil))) (pa_cons (pe_tup (pa_cons pe_int (pa_cons pe_int pa_nil))) (pa_cons (pe_tup (pa_cons pe_int (pa_cons pe_int pa_nil))) (pa_cons (pe_tup (pa_cons pe_int (pa_cons pe_int pa_nil))) pa_nil)))))) (nomark _)) (pss_one (ps_ret pe_bl)) pss_nil)
      (pss_cons (ps_if (pt_cmpR (op_neD hr.units) (pe_lc (own := [("_law_n", 7)]) (g := (gName 7)) (tt := tYes) rfl sc__law_numbers_right.nd (pi_tup (pe_tup (pa_cons pe_int (pa_cons pe_int (pa_cons pe_int (pa_cons pe_int (pa_cons pe_int pa_nil))))))) (blkOk_by (N := N__law_numbers_right) (sc := defScope s__law_numbers_right) (by decide +kernel)) (fun _ _ _ _ _ => (pg_name (i := 7) sc__law_numbers_right.nd rfl (Or.inl rfl))) (fun _ _ _ _ _ => pts_nil) (fun _ _ _ _ _ => (pe_call G__law_refused (hr.mono (by decide)) rfl g__law_refused k__law_refused b__law_refused .nil pass0 (pa_cons (pv 1) (pa_cons (pe_tup (pa_cons pe_int (pa_cons pe_int pa_nil))) (pa_cons (pe_tup (pa_cons (pe_tup (pa_cons pe_str (pa_cons (pv 7) pa_nil))) pa_nil)) pa_nil)))))) (pe_lst (pa_cons pe_int (pa_cons (pe_un un_neg pe_int) (pa_cons pe_int (pa_cons pe_int (pa_cons (pe_un un_neg pe_int) pa_nil)))))) (nomark _)) (pss_one (ps_ret pe_bl)) pss_nil)
      (pss_cons (ps_setLc (i := 4) (own := [("_law_n", 7)]) (g := (gName 7)) (tt := tYes) rfl sc__law_numbers_right.nd rfl rfl (sw_true rfl rfl rfl (by decide +kernel)) (pi_tup (pe_tup (pa_cons pe_int (pa_cons pe_int (pa_cons pe_int (pa_cons pe_int (pa_cons pe_int (pa_cons pe_int (pa_cons pe_int (pa_cons pe_int pa_nil)))))))))) (blkOk_by (N := N__law_numbers_right) (sc := defScope s__law_numbers_right) (by decide +kernel)) (fun _ _ _ _ _ => (pg_name (i := 7) sc__law_numbers_right.nd rfl (Or.inl rfl))) (fun _ _ _ _ _ => pts_nil) (fun _ _ _ _ _ => (pe_call G__law_refused (hr.mono (by decide)) rfl g__law_refused k__law_refused b__law_refused .nil pass0 (pa_cons (pv 1) (pa_cons (pe_tup (pa_cons pe_int (pa_cons pe_int pa_nil))) (pa_cons (pe_op op_catA (pe_slice sl_tupA (pv 2) po_none (po_some pe_int)) (pe_tup (pa_cons (pe_tup (pa_cons pe_str (pa_cons (pv 7) pa_nil))) pa_nil))) pa_nil))))))
      (pss_cons (ps_if (pt_cmpR (op_neD hr.units) (pv 4) (pe_lst (pa_cons (pe_un un_neg pe_int) (pa_cons pe_int (pa_cons (pe_un un_neg pe_int) (pa_cons (pe_un un_neg pe_int) (pa_cons pe_int (pa_cons (pe_un un_neg pe_int) (pa_cons pe_int (pa_cons pe_int pa_nil))))))))) (nomark _)) (pss_one (ps_ret pe_bl)) pss_nil)
      (pss_cons (ps_set (i := 5) sc__law_numbers_right.nd rfl (Or.inl rfl) (pe_tup (pa_cons pe_str (pa_cons (pe_ix ix_tup (pv 0) pe_int (fun _ _ => rfl)) (pa_cons pe_str pa_nil)))))
      (pss_one (ps_ret (pe_and (pe_cmpR op_is_bl (pe_callK0 G_is_step_1_0_0 (hr.mono (by decide)) rfl g_is_step_1_0_0 k_is_step_1_0_0 b_is_step_1_0_0 pass0 (pk_cons (pv 5) (pk_cons (pv 1) pk_nil))) pe_bl (nomark _)) (pe_one (pe_cmpR op_is_bl (pe_call G_is_step (hr.mono (by decide)) rfl g_is_step k_is_step b_is_step .nil pass0 (pa_cons (pv 1) (pa_cons (pe_callTy call_list_of (by rfl) T.n_list (by decide +kernel) (pa_cons (pv 5) pa_nil)) pa_nil))) pe_bl (nomark _))))))))))))), ok_body (Z := ⟨K, κ⟩) (O := []) (js_seq (js_asg (j_tup (ja_cons (j_tup (ja_cons j_str (ja_cons j_int ja_nil))) (ja_cons (j_tup (ja_cons j_str (ja_cons j_int ja_nil))) (ja_cons (j_tup (ja_cons j_str (ja_cons j_int ja_nil))) (ja_cons (j_tup (ja_cons j_str (ja_cons j_int ja_nil))) ja_nil))))) (jg_name nin nofun))
      (js_seq (js_asg (j_lc (ji_tup xCo (j_callK via_F ja_nil (ja_cons (j_var nin) (ja_cons (j_tup (ja_cons j_int (ja_cons j_int ja_nil))) (ja_cons (j_var nin) ja_nil))))) (jg_name nin (fun w e => by cases e; decide)) jb_yes (j_op upD r_ixT (j_var nin) j_int)) (jg_name nin nofun))
      (js_seq (js_if (jb_test (j_op upW r_neD (JD.w (j_var nin)) (JD.w (j_lst (ja_cons (j_tup (ja_cons j_int (ja_cons j_int ja_nil))) (ja_cons (j_tup (ja_cons j_int (ja_cons j_int ja_nil))) (ja_cons (j_tup (ja_cons j_int (ja_cons j_int ja_nil))) (ja_cons (j_tup (ja_cons j_int (ja_cons j_int ja_nil))) (ja_cons (j_tup (ja_cons j_int (ja_cons j_int ja_nil))) ja_nil))))))))) (js_ret (JD.w j_bl)) js_next)
      (js_seq (js_if (jb_test (j_op upW r_neD (JD.w (j_lc (ji_tup xCo (j_tup (ja_cons j_int (ja_cons j_int (ja_cons j_int (ja_cons j_int (ja_cons j_int ja_nil))))))) (jg_name nin (fun w e => by cases e; decide)) jb_yes (j_callV via_id (ja_cons (j_var nin) (ja_cons (j_tup (ja_cons j_int (ja_cons j_int ja_nil))) (ja_cons (j_tup (ja_cons (j_tup (ja_cons j_str (ja_cons (j_var nin) ja_nil))) ja_nil)) ja_nil))) (len_cons (len_cons (len_cons (fun _ _ _ _ h => len_nil h))))))) (JD.w (j_lst (ja_cons j_int (ja_cons (j_un u_neg j_int) (ja_cons j_int (ja_cons j_int (ja_cons (j_un u_neg j_int) ja_nil))))))))) (js_ret (JD.w j_bl)) js_next)
      (js_seq (js_asg (j_lc (ji_tup xCo (j_tup (ja_cons j_int (ja_cons j_int (ja_cons j_int (ja_cons j_int (ja_cons j_int (ja_cons j_int (ja_cons j_int (ja_cons j_int ja_nil)))))))))) (jg_name nin (fun w e => by cases e; decide)) jb_yes (j_callV via_id (ja_cons (j_var nin) (ja_cons (j_tup (ja_cons j_int (ja_cons j_int ja_nil))) (ja_cons (j_op upD r_catT (j_slT (j_var nin) jo_none (jo_some j_int)) (j_tup (ja_cons (j_tup (ja_cons j_str (ja_cons (j_var nin) ja_nil))) ja_nil))) ja_nil))) (len_cons (len_cons (len_cons (fun _ _ _ _ h => len_nil h)))))) (jg_name nin nofun))
      (js_seq (js_if (jb_test (j_op upW r_neD (JD.w (j_var nin)) (JD.w (j_lst (ja_cons (j_un u_neg j_int) (ja_cons j_int (ja_cons (j_un u_neg j_int) (ja_cons (j_un u_neg j_int) (ja_cons j_int (ja_cons (j_un u_neg j_int) (ja_cons j_int (ja_cons j_int ja_nil)))))))))))) (js_ret (JD.w j_bl)) js_next)
      (js_seq (js_asg (j_tup (ja_cons j_str (ja_cons (j_op upD r_ixT (j_var nin) j_int) (ja_cons j_str ja_nil)))) (jg_name nin nofun))
      (js_ret (JD.w (j_andV (j_op upD r_isB (j_callK via_id ja_nil (ja_cons (j_var nin) (ja_cons (j_var nin) ja_nil))) j_bl) (j_op upD r_isB (j_callV via_id (ja_cons (j_var nin) (ja_cons (j_cb c_list (ja_consW (JD.w (j_var nin)) ja_nil)) ja_nil)) (len_cons (len_cons (fun _ _ _ _ h => len_nil h)))) j_bl))))))))))) (fun _ m => absurd m List.not_mem_nil) h⟩)
theorem ok_law {f : Addr} {fd : FuncData} (F : Fun K "law" "law" s_law f fd) (T : TxD2 mg) (cL__law_names : Cal P w K mg base 3 "_law_names" P__law_names (spD ⟨K, κ⟩ 1 L__law_names)) (cL__law_pot_of : Cal P w K mg base 1 "_law_pot_of" P__law_pot_of (spD ⟨K, κ⟩ 2 L__law_pot_of)) (cL__law_hand_world : Cal P w K mg base 9 "_law_hand_world" P__law_hand_world (spD ⟨K, κ⟩ 1 L__law_hand_world)) (cL__law_releases_right : Cal P w K mg base 9 "_law_releases_right" P__law_releases_right (spD ⟨K, κ⟩ 2 L__law_releases_right)) (cL__law_sides_right : Cal P w K mg base 9 "_law_sides_right" P__law_sides_right (spD ⟨K, κ⟩ 2 L__law_sides_right)) (cL__law_numbers_right : Cal P w K mg base 9 "_law_numbers_right" P__law_numbers_right (spD ⟨K, κ⟩ 2 L__law_numbers_right)) : FnG P w K mg base CX0 10 f fd P_law (spD ⟨K, κ⟩ 1 L_law) := by
  obtain ⟨f__law_names, fd__law_names, G__law_names, b__law_names, g__law_names, k__law_names⟩ := cL__law_names
  obtain ⟨f__law_pot_of, fd__law_pot_of, G__law_pot_of, b__law_pot_of, g__law_pot_of, k__law_pot_of⟩ := cL__law_pot_of
  obtain ⟨f__law_hand_world, fd__law_hand_world, G__law_hand_world, b__law_hand_world, g__law_hand_world, k__law_hand_world⟩ := cL__law_hand_world
  obtain ⟨f__law_releases_right, fd__law_releases_right, G__law_releases_right, b__law_releases_right, g__law_releases_right, k__law_releases_right⟩ := cL__law_releases_right
  obtain ⟨f__law_sides_right, fd__law_sides_right, G__law_sides_right, b__law_sides_right, g__law_sides_right, k__law_sides_right⟩ := cL__law_sides_right
  obtain ⟨f__law_numbers_right, fd__law_numbers_right, G__law_numbers_right, b__law_numbers_right, g__law_numbers_right, k__law_numbers_right⟩ := cL__law_numbers_right
  exact Fun_okG F sc_law (fun vs H Q E h => h.1) (fun cdv A outer s H vs Q E calm hr h => ⟨_, (pss_cons (ps_for PassesOwn.never rfl (pi_range1 rfl T.n_range (pa_cons (pe_callB (call_max2 rfl) (by rfl) T.n_max (by decide +kernel) (pa_cons pe_int (pa_cons (pe_callB (call_min2 rfl) (by rfl) T.n_min (by decide +kernel) (pa_cons pe_int (pa_cons (pe_callB call_len_seq (by rfl) T.n_len (by decide +kernel) (pa_cons (pv 0) pa_nil)) pa_nil))) pa_nil))) pa_nil)) (pg_name (i := 1) sc_law.nd rfl (Or.inl rfl)) (pss_cons (ps_set (i := 2) sc_law.nd rfl (Or.inl rfl) (pe_call G__law_names (hr.mono (by decide)) rfl g__law_names k__law_names b__law_names .nil pass0 (pa_cons (pe_call G__law_pot_of (hr.mono (by decide)) rfl g__law_pot_of k__law_pot_of b__law_pot_of .nil pass0 (pa_cons (pv 0) (pa_cons (pv 1) pa_nil))) pa_nil)))
      (pss_cons (ps_set (i := 3) sc_law.nd rfl (Or.inl rfl) (pe_call G__law_hand_world (hr.mono (by decide)) rfl g__law_hand_world k__law_hand_world b__law_hand_world .nil pass0 (pa_cons (pv 2) pa_nil)))
      (pss_cons (ps_if (PW.pt (pw_or (pt_not (pt_val (pe_call G__law_releases_right (hr.mono (by decide)) rfl g__law_releases_right k__law_releases_right b__law_releases_right .nil pass0 (pa_cons (pv 2) (pa_cons (pv 3) pa_nil))))) (pw_or1 (pt_not (pt_val (pe_call G__law_sides_right (hr.mono (by decide)) rfl g__law_sides_right k__law_sides_right b__law_sides_right .nil pass0 (pa_cons (pv 2) (pa_cons (pv 3) pa_nil)))))))) (pss_one (ps_ret pe_bl)) pss_nil)
      (pss_one (ps_if (pt_not (pt_val (pe_call G__law_numbers_right (hr.mono (by decide)) rfl g__law_numbers_right k__law_numbers_right b__law_numbers_right .nil pass0 (pa_cons (pv 2) (pa_cons (pv 3) pa_nil))))) (pss_one (ps_ret pe_bl)) pss_nil))))))
      (pss_one (ps_ret pe_bl))), ok_body (Z := ⟨K, κ⟩) (O := []) (js_seq (js_for (ji_rg1 (ja_cons (j_cb c_max (ja_cons j_int (ja_cons (j_cb c_min (ja_cons j_int (ja_cons (j_cb c_len (ja_consW (JD.w (j_var nin)) ja_nil)) ja_nil))) ja_nil))) ja_nil)) (jg_name nin nofun) (js_seq (js_asg (j_callV via_id (ja_cons (j_callV via_id (ja_cons (j_var nin) (ja_cons (j_var nin) ja_nil)) (len_cons (len_cons (fun _ _ _ _ h => len_nil h)))) ja_nil) (len_cons (fun _ _ _ _ h => len_nil h))) (jg_name nin nofun))
      (js_seq (js_asg (j_callV via_F (ja_cons (j_var nin) ja_nil) (len_cons (fun _ _ _ _ h => len_nil h))) (jg_name nin nofun))
      (js_seq (js_if (jb_or (jb_not (jb_B (j_callV via_F (ja_cons (j_var nin) (ja_cons (j_var nin) ja_nil)) (len_cons (len_cons (fun _ _ _ _ h => len_nil h)))))) (jb_not (jb_B (j_callV via_F (ja_cons (j_var nin) (ja_cons (j_var nin) ja_nil)) (len_cons (len_cons (fun _ _ _ _ h => len_nil h))))))) (js_ret (JD.w j_bl)) js_next)
      (js_if (jb_not (jb_B (j_callV via_F (ja_cons (j_var nin) (ja_cons (j_var nin) ja_nil)) (len_cons (len_cons (fun _ _ _ _ h => len_nil h)))))) (js_ret (JD.w j_bl)) js_next)))))
      (js_ret (JD.w j_bl))) (fun _ m => absurd m List.not_mem_nil) h⟩)
end
end Zd

namespace Zd
open PySem PySem.Spec PyProof.Rows L2 Zg
section
variable {P : Program} {w : World} {K : PySem.W.Frag} {mg : Str → Option Value} {base : Heap} {κ : String → Addr} {CW : Addr}
theorem frz_obj {S : List Dat} {n : Nat} {c : String} {fs : List Str} {ds : List Dat} {e : Dat} (h : frz S (n + 1) (.obj c fs ds) = some e) : ∃ es, frzs (frz S n) ds = some es ∧ e = .obj c fs es := by
  unfold frz at h
  dsimp only at h
  split at h
  · rename_i es ee
    cases h
    exact ⟨es, ee, rfl⟩
  · cases h
theorem frzs_one {f : Dat → Option Dat} {ds : List Dat} {e : Dat} (h : frzs f ds = some [e]) : ∃ d, ds = [d] ∧ f d = some e := by
  cases ds with
  | nil => cases h
  | cons d r =>
    unfold frzs at h
    split at h
    · rename_i e1 q1
      split at h
      · rename_i es q2
        injection h with h
        injection h with h1 h2
        subst h1 h2
        cases r with
        | nil => exact ⟨d, rfl, q1⟩
        | cons b r =>
          unfold frzs at q2
          split at q2
          · split at q2 <;> cases q2
          · cases q2
      · cases h
    · cases h
theorem pe_xfS {X : Cx} {a : Addr} {oe : Obj} {cls : Value} {d : Option Addr} {pn : List (Addr × Obj)} {e : Expr} {te : TE} {pos : Pos} {n : Str} (hz : Zc cls d oe) (hf : ∃ vs, oe.data = .fields vs) (he : PE (X.suite a ((a, oe) :: pn)) e te) (hb : attributeBase e n X.env (eval e X.env) = eval e X.env := by rfl) :
    PE (X.suite a ((a, oe) :: pn)) (.Attribute e n pos) (tXfP X.K a cls d n te) := pe_xfP (X := X.suite a ((a, oe) :: pn)) List.mem_cons_self hz hf he hb
theorem ok__law_refused {f : Addr} {fd : FuncData} (F : Fun K "_law_refused" "_law_refused" s__law_refused f fd) (EX_BadPlan : ExT K mg CW (κ "BadPlan") "BadPlan" "index") (ek : ExcK K (κ "BadPlan")) (me : PySem.W.exmOne K (.ref (κ "BadPlan")) (.ref (κ "BadPlan")) = some true)
    (cm : CalX P w K mg base 7 "moments" P_moments (spD ⟨K, κ⟩ 3 L_momentsX)) : FnOk P w K mg base CX0 8 f fd P__law_refused (spD ⟨K, κ⟩ 3 L__law_refused) := by
  obtain ⟨f_m, fd_m, G_m, b_m, g_m, k_m⟩ := cm
  refine F.ok sc__law_refused (fun vs H Q E h => h.1) (fun cdv A outer s H vs Q E hr h => ?_)
  refine ⟨_, pss_one (ps_try_as (i := 3) rfl rfl sc__law_refused.nd rfl rfl ⟨rfl, by decide, .inl EX_BadPlan.g⟩ takes0 (fun W pn xe tk _ => (pss_cons (ps_expr (pe_callXs G_m (hr.mono (by decide)) rfl g_m k_m b_m (fun σ => passAt tk σ) (pa_cons (pv 0) (pa_cons (pv 1) (pa_cons (pv 2) pa_nil))))) (pss_one (ps_ret (pe_un un_neg pe_int)))))
    (fun a oe cls d pn hz hf => pss_one (ps_ret (pe_xfS hz hf (pv 3))))), ?_⟩
  obtain ⟨hl, p, ds, S, h0, hd, hS, q⟩ := h
  match ds, hd, q with
  | [], hd, q => exact q.elim
  | [_], hd, q => exact q.elim
  | [_, _], hd, q => exact q.elim
  | _ :: _ :: _ :: _ :: _, hd, q => exact q.elim
  | [d1, d2, d3], hd, q =>
    obtain ⟨x, r, rfl, hx, hd2⟩ := isDs_cons.mp hd
    obtain ⟨y, r2, rfl, hy, hd3⟩ := isDs_cons.mp hd2
    obtain ⟨z, rfl, hz⟩ := isDs_one hd3
    refine ⟨x, rfl, y, rfl, z, rfl, ?_⟩
    have q : Post ⟨K, κ⟩ (ErOf ⟨K, κ⟩ E) ExtE (refH (callF L_momentsX [d1, d2, d3] S)) H p (fun d _ H' p' => ∀ v, IsD ⟨K, κ⟩ H' p' v d → Q v H') := q
    unfold callF at q
    cases nl : noLocs [d1, d2, d3] with
    | false => rw [nl] at q; exact q.elim
    | true =>
      rw [nl] at q
      dsimp only at q
      refine ⟨rfl, allP p, [d1, d2, d3], [], rfl, IsDs.still (fun a h => allP_has.mp h) _ nl hd, allP_s hS, ?_⟩
      cases eF : L_momentsX [d1, d2, d3] [] with
      | bad => rw [eF] at q; exact q.elim
      | ok d S' =>
        rw [eF] at q
        dsimp only at q
        cases ez : frz S' 40 d with
        | none => rw [ez] at q; exact q.elim
        | some e =>
          rw [ez] at q
          intro H' p' ee s v hv
          obtain ⟨sm, hs⟩ := allP_back hS ee s
          exact ⟨1, rfl, q H' p (ExtE.same sm) (hS.ext sm) _ (isD_int.mpr rfl)⟩
      | er c fs S' =>
        rw [eF] at q
        dsimp only at q
        cases ez : frzs (frz S' 40) fs with
        | none => rw [ez] at q; exact q.elim
        | some es =>
          rw [ez] at q
          dsimp only at q
          unfold refH at q
          dsimp only at q
          split at q
          · rename_i c' ns x0
            cases eb : decide (c = "BadPlan") && decide (ns = [("index" : Str)]) with
            | false => rw [eb] at q; exact q.elim
            | true =>
              rw [eb] at q
              rw [Bool.and_eq_true, decide_eq_true_eq, decide_eq_true_eq] at eb
              obtain ⟨ec, en⟩ := eb
              subst ec en
              intro H' p' ee s ns2 ds2 ef d H2 us nd sm2 ed hl2 hu
              subst ef
              obtain ⟨w1, e1, e2⟩ := frzs_one ez
              cases e1
              obtain ⟨gs, g1, g2⟩ := frz_obj e2
              cases g2
              obtain ⟨x1, e3, e4⟩ := frzs_one g1
              subst e3
              obtain ⟨u, rfl, hu1⟩ := isDs_one hu
              obtain ⟨sm, hs⟩ := allP_back hS ee s
              have ew : p'.ω = [] := ee.ω
              have ep : (⟨p'.α, [], p'.γ⟩ : Pl) = p' := by
                cases p'
                cases ew
                rfl
              rw [ep] at hu1
              have s2 := s.ext sm2
              have smT : Same H H2 := fun b o h => sm2 b o (sm b o h)
              have hv := (frz_is s2 hs 39 x1 x0 u e4).1 hu1
              refine ⟨true, me, fun _ a na => ?_, nofun⟩
              exact ⟨.ref a, rfl, rfl, κ "BadPlan", d, _, u, rfl, ek, EX_BadPlan.nf, rfl, ed, rfl, q H2 p (ExtE.same smT) (hS.ext smT) u hv⟩
          · exact q.elim
end
end Zd

namespace Zd
open PySem PySem.Spec PyProof.Rows L2 Zg
/-! ### what a program of trees does, by its parts -/
def wp {α : Type} (m : M α) (S : List Dat) (C : α → List Dat → Prop) : Prop := match m S with
  | .ok a S' => C a S'
  | _ => False
section
variable {α β : Type} {S : List Dat}
theorem wp_of {m : M α} {a : α} {S' : List Dat} {C : α → List Dat → Prop} (h : m S = .ok a S') (k : C a S') : wp m S C := by unfold wp; rw [h]; exact k
theorem wp_ok {m : M α} {C : α → List Dat → Prop} (h : wp m S C) : ∃ a S', m S = .ok a S' ∧ C a S' := by
  unfold wp at h
  cases e : m S with
  | ok a S' => rw [e] at h; exact ⟨a, S', rfl, h⟩
  | er c fs S' => rw [e] at h; exact h.elim
  | bad => rw [e] at h; exact h.elim
theorem wp_bind {m : M α} {f : α → M β} {C : β → List Dat → Prop} (h : wp m S fun a S' => wp (f a) S' C) : wp (m >>= f) S C := by
  obtain ⟨a, S', e, k⟩ := wp_ok h
  show wp (M.bnd m f) S C
  unfold wp M.bnd
  rw [e]
  exact k
theorem wp_mono {m : M α} {C D : α → List Dat → Prop} (h : wp m S C) (k : ∀ a S', C a S' → D a S') : wp m S D := by
  obtain ⟨a, S', e, c⟩ := wp_ok h
  exact wp_of e (k a S' c)
theorem wp_pure {a : α} {C : α → List Dat → Prop} (h : C a S) : wp (pure a) S C := h
theorem wp_need {b : Bool} {f : Unit → M β} {C : β → List Dat → Prop} (hb : b = true) (h : wp (f ()) S C) : wp (M.need b >>= f) S C := by subst hb; exact h
theorem wp_opt {o : Option α} {a : α} {f : α → M β} {C : β → List Dat → Prop} (ho : o = some a) (h : wp (f a) S C) : wp (M.opt o >>= f) S C := by subst ho; exact h
variable {ρ : Env}
theorem wp_run {N : Nat} {b : Env → M Flow} {ds : List Dat} {C : Dat → List Dat → Prop} (h : wp (b (startE N ds)) S fun f S' => wp (outF f) S' C) : wp (runD N b ds) S C := wp_bind h
theorem wp_seq {a b : Env → M Flow} {C : Flow → List Dat → Prop} (h : wp (a ρ) S fun f S' => match f with | .nx ρ' => wp (b ρ') S' C | g => C g S') : wp (sSeq a b ρ) S C := wp_bind (wp_mono h fun f S' k => by cases f <;> exact k)
theorem wp_if {c : Env → M Bool} {a b : Env → M Flow} {C : Flow → List Dat → Prop} (h : wp (c ρ) S fun x S' => (x = true → wp (a ρ) S' C) ∧ (x = false → wp (b ρ) S' C)) : wp (sIf c a b ρ) S C := wp_bind (wp_mono h fun x S' k => by
  cases x with
  | true => exact k.1 rfl
  | false => exact k.2 rfl)
theorem wp_xif {c : Env → M Bool} {a b : Env → M Dat} {C : Dat → List Dat → Prop} (h : wp (c ρ) S fun x S' => (x = true → wp (a ρ) S' C) ∧ (x = false → wp (b ρ) S' C)) : wp (xIf c a b ρ) S C := wp_bind (wp_mono h fun x S' k => by
  cases x with
  | true => exact k.1 rfl
  | false => exact k.2 rfl)
theorem wp_asg {a : Env → M Dat} {g : Env → Dat → Option Env} {C : Flow → List Dat → Prop} (h : wp (a ρ) S fun d S' => ∃ ρ', g ρ d = some ρ' ∧ C (.nx ρ') S') : wp (sAsg a g ρ) S C := wp_bind (wp_mono h fun d S' ⟨ρ', e, k⟩ => wp_opt e k)
theorem wp_ret {a : Env → M Dat} {C : Flow → List Dat → Prop} (h : wp (a ρ) S fun d S' => C (.rt d) S') : wp (sRet a ρ) S C := wp_bind h
theorem wp_op {f : Dat → Dat → M Dat} {a b : Env → M Dat} {C : Dat → List Dat → Prop} (h : wp (a ρ) S fun x S1 => wp (b ρ) S1 fun y S2 => wp (f x y) S2 C) : wp (xOp f a b ρ) S C := wp_bind (wp_mono h fun x S1 k => wp_bind k)
theorem wp_un {f : Dat → M Dat} {a : Env → M Dat} {C : Dat → List Dat → Prop} (h : wp (a ρ) S fun x S1 => wp (f x) S1 C) : wp (xUn f a ρ) S C := wp_bind h
theorem wp_test {a : Env → M Dat} {C : Bool → List Dat → Prop} (h : wp (a ρ) S fun d S' => ∃ b, d = .bl b ∧ C b S') : wp (bTest a ρ) S C := wp_bind (wp_mono h fun d S' ⟨b, e, k⟩ => by subst e; exact k)
theorem wp_not {a : Env → M Bool} {C : Bool → List Dat → Prop} (h : wp (a ρ) S fun b S' => C (!b) S') : wp (bNot a ρ) S C := wp_bind h
theorem wp_and {a b : Env → M Bool} {C : Bool → List Dat → Prop} (h : wp (a ρ) S fun x S' => (x = true → wp (b ρ) S' C) ∧ (x = false → C false S')) : wp (bAnd a b ρ) S C := wp_bind (wp_mono h fun x S' k => by
  cases x with
  | true => exact k.1 rfl
  | false => exact k.2 rfl)
theorem wp_or {a b : Env → M Bool} {C : Bool → List Dat → Prop} (h : wp (a ρ) S fun x S' => (x = true → C true S') ∧ (x = false → wp (b ρ) S' C)) : wp (bOr a b ρ) S C := wp_bind (wp_mono h fun x S' k => by
  cases x with
  | true => exact k.1 rfl
  | false => exact k.2 rfl)
theorem wp_andV {a b : Env → M Dat} {C : Dat → List Dat → Prop} (h : wp (a ρ) S fun d S' => ∃ x, d = .bl x ∧ (x = true → wp (b ρ) S' C) ∧ (x = false → C (.bl false) S')) : wp (xAnd a b ρ) S C := wp_bind (wp_test (wp_mono h fun d S' ⟨x, e, k1, k2⟩ => ⟨x, e, by
  cases x with
  | true => exact k1 rfl
  | false => exact k2 rfl⟩))
theorem wp_orV {a b : Env → M Dat} {C : Dat → List Dat → Prop} (h : wp (a ρ) S fun d S' => ∃ x, d = .bl x ∧ (x = true → C (.bl true) S') ∧ (x = false → wp (b ρ) S' C)) : wp (xOr a b ρ) S C := wp_bind (wp_test (wp_mono h fun d S' ⟨x, e, k1, k2⟩ => ⟨x, e, by
  cases x with
  | true => exact k1 rfl
  | false => exact k2 rfl⟩))
theorem wp_notV {a : Env → M Dat} {C : Dat → List Dat → Prop} (h : wp (a ρ) S fun d S' => ∃ x, d = .bl x ∧ C (.bl (!x)) S') : wp (xNot a ρ) S C := wp_bind (wp_test (wp_mono h fun d S' ⟨x, e, k⟩ => ⟨x, e, k⟩))
theorem wp_cons {a : Env → M Dat} {l : Env → M (List Dat)} {C : List Dat → List Dat → Prop} (h : wp (a ρ) S fun x S1 => wp (l ρ) S1 fun xs S2 => C (x :: xs) S2) : wp (xCons a l ρ) S C := wp_bind (wp_mono h fun x S1 k => wp_bind (wp_mono k fun xs S2 k => k))
theorem wp_cb {f : List Dat → M Dat} {l : Env → M (List Dat)} {C : Dat → List Dat → Prop} (h : wp (l ρ) S fun ds S1 => wp (f ds) S1 C) : wp (xCB f l ρ) S C := wp_bind h
theorem wp_calm {m : M α} {C : α → List Dat → Prop} (h : wp m S C) : wp (calm m) S C := by
  obtain ⟨a, S', e, k⟩ := wp_ok h
  unfold wp calm
  rw [e]
  exact k
theorem wp_call {f : List Dat → M Dat} {l : Env → M (List Dat)} {C : Dat → List Dat → Prop} (h : wp (l ρ) S fun ds S1 => wp (f ds) S1 C) : wp (xCall f l ρ) S C := wp_bind (wp_mono h fun ds S1 k => wp_calm k)
theorem wp_tup {l : Env → M (List Dat)} {C : Dat → List Dat → Prop} (h : wp (l ρ) S fun ds S1 => ds.length ≤ 1000 ∧ C (.tup ds) S1) : wp (xTup l ρ) S C := wp_bind (wp_mono h fun ds S1 ⟨k1, k2⟩ => wp_need (decide_eq_true k1) k2)
theorem wp_lst {l : Env → M (List Dat)} {C : Dat → List Dat → Prop} (h : wp (l ρ) S fun ds S1 => ds.length ≤ 1000 ∧ C (.lst ds) S1) : wp (xLst l ρ) S C := wp_bind (wp_mono h fun ds S1 ⟨k1, k2⟩ => wp_need (decide_eq_true k1) k2)
/-- a loop: what holds of what is left to walk -/
theorem wp_for {g : Env → Dat → Option Env} {b : Env → M Flow} {C : Flow → List Dat → Prop} (I : List Dat → Env → List Dat → Prop)
    (step : ∀ d ds ρ S, I (d :: ds) ρ S → ∃ ρ1, g ρ d = some ρ1 ∧ wp (b ρ1) S fun f S' => match f with | .nx ρ2 => I ds ρ2 S' | .ct ρ2 => I ds ρ2 S' | .bk ρ2 => C (.nx ρ2) S' | .rt d => C (.rt d) S')
    (stop : ∀ ρ S, I [] ρ S → C (.nx ρ) S) : ∀ (ds : List Dat) (ρ : Env) (S : List Dat), I ds ρ S → wp (forD g b ds ρ) S C
  | [], ρ, S, h => stop ρ S h
  | d :: ds, ρ, S, h => by
    obtain ⟨ρ1, e, k⟩ := step d ds ρ S h
    unfold forD
    refine wp_opt e (wp_bind (wp_mono k fun f S' k => ?_))
    cases f with
    | nx ρ2 => exact wp_for I step stop ds ρ2 S' k
    | ct ρ2 => exact wp_for I step stop ds ρ2 S' k
    | bk ρ2 => exact k
    | rt d => exact k
/-- a comprehension without a test -/
theorem wp_comp {g : Env → Dat → Option Env} {e : Env → M Dat} {ρ : Env} (I : List Dat → List Dat → List Dat → Prop)
    (step : ∀ d ds acc S, I (d :: ds) acc S → ∃ ρ1, g ρ d = some ρ1 ∧ wp (e ρ1) S fun x S' => I ds (acc ++ [x]) S') : ∀ (ds acc : List Dat) (S : List Dat) (C : List Dat → List Dat → Prop), I ds acc S → (∀ xs S', I [] (acc ++ xs) S' → C xs S') → wp (compD g bYes e ρ ds) S C
  | [], acc, S, C, h, k => k [] S (by rw [List.append_nil]; exact h)
  | d :: ds, acc, S, C, h, k => by
    obtain ⟨ρ1, e1, h1⟩ := step d ds acc S h
    unfold compD
    refine wp_opt e1 (wp_bind (wp_pure ?_))
    rw [if_pos rfl]
    refine wp_bind (wp_mono h1 fun x S' h2 => wp_bind (wp_comp I step ds (acc ++ [x]) S' _ h2 fun xs S2 h3 => ?_))
    exact k (x :: xs) S2 (by rw [List.append_assoc] at h3; exact h3)
theorem wp_lc {it : Env → M (List Dat)} {g : Env → Dat → Option Env} {e : Env → M Dat} {vs : List Nat} {C : Dat → List Dat → Prop} (h : wp (it ρ) S fun ds S1 => ds.length ≤ 100000 ∧ wp (compD g bYes e (wipeE ρ vs) ds) S1 fun xs S2 => C (.lst xs) S2) : wp (xLc it g bYes e vs ρ) S C :=
  wp_bind (wp_mono h fun ds S1 ⟨k1, k2⟩ => wp_need (decide_eq_true k1) (wp_bind k2))
end
def Pot (i k : Nat) (S : List Dat) : Prop := ∃ o m n : Int, ((i = 0 ∧ S = [.lst [.int o, .int m, .int n]]) ∨ (∃ a, i = 1 ∧ S = [a, .lst [.int o, .int m, .int n]]) ∨ (∃ a b, i = 2 ∧ S = [a, b, .lst [.int o, .int m, .int n]])) ∧ 0 ≤ o ∧ 0 ≤ m ∧ m < 2305843009213693921 ∧ 0 ≤ n ∧ n + k ≤ 100000
theorem Pot.le {i k l : Nat} {S : List Dat} (h : Pot i k S) (j : l ≤ k) : Pot i l S := by
  obtain ⟨o, m, n, a, b, c, d, e, f⟩ := h
  exact ⟨o, m, n, a, b, c, d, e, by omega⟩
theorem w_mod {S : List Dat} {i j : Int} {C : Dat → List Dat → Prop} (hj : 0 < j) (h : C (.int (i % j)) S) : wp (dMod (.int i) (.int j)) S C := wp_need (decide_eq_true hj) h
theorem w_div {S : List Dat} {i j : Int} {C : Dat → List Dat → Prop} (hj : 0 < j) (h2 : j < 2 ^ 200) (h : C (.int (i / j)) S) : wp (dDiv (.int i) (.int j)) S C := wp_need (by simp only [Bool.and_eq_true, decide_eq_true_eq]; exact ⟨hj, h2⟩) h
theorem w_mul {S : List Dat} {i j : Int} {C : Dat → List Dat → Prop} (c : (-(2 ^ 64) < i ∧ i < 2 ^ 64) ∨ (-(2 ^ 64) < j ∧ j < 2 ^ 64)) (h : C (.int (i * j)) S) : wp (dMul (.int i) (.int j)) S C := wp_need (by unfold bMul; simp only [Bool.or_eq_true, Bool.and_eq_true, decide_eq_true_eq]; exact c) h
theorem w_pow {S : List Dat} {i j : Int} {C : Dat → List Dat → Prop} (c : 0 ≤ j ∧ j ≤ 1000000) (d : i.natAbs < 2 ^ 64) (h : C (.int (i ^ j.toNat)) S) : wp (dPow (.int i) (.int j)) S C := wp_need (by unfold bPow; simp only [Bool.and_eq_true, decide_eq_true_eq]; exact ⟨c, d⟩) h
theorem w_add {S : List Dat} {i j : Int} {C : Dat → List Dat → Prop} (h : C (.int (i + j)) S) : wp (dAdd (.int i) (.int j)) S C := h
theorem w_sub {S : List Dat} {i j : Int} {C : Dat → List Dat → Prop} (h : C (.int (i - j)) S) : wp (dSub (.int i) (.int j)) S C := h
theorem w_int {S : List Dat} {i : Int} {C : Dat → List Dat → Prop} (h : C (.int i) S) : wp (dInt [.int i]) S C := h
theorem wp_nil {S : List Dat} {ρ : Env} {C : List Dat → List Dat → Prop} (h : C [] S) : wp (xNil ρ) S C := h
theorem wp_c {S : List Dat} {ρ : Env} {d : Dat} {C : Dat → List Dat → Prop} (h : C d S) : wp (xC d ρ) S C := h
theorem wp_var {S : List Dat} {ρ : Env} {i : Nat} {d : Dat} {C : Dat → List Dat → Prop} (e : ρ[i]? = some (some d)) (h : C d S) : wp (xVar i ρ) S C := by unfold xVar; rw [e]; exact h
theorem w_take0 {k : Nat} {u : Int} {o m n : Int} {C : Dat → List Dat → Prop} (o0 : 0 ≤ o) (m0 : 0 ≤ m) (m1 : m < 2305843009213693921) (n0 : 0 ≤ n) (nk : n + ((k + 1 : Nat) : Int) ≤ 100000) (u0 : 0 < u) (u1 : u < 2 ^ 200) (q : ∀ r S', 0 ≤ r → r < u → Pot 0 k S' → C (.int r) S') : wp (L__law_take [.loc 0, .int u]) [.lst [.int o, .int m, .int n]] C := by
  refine wp_run (wp_seq (wp_if (wp_test (wp_of (a := .bl (decide (0 < o))) rfl ⟨_, rfl, fun h => ?_, fun h => ?_⟩))))
  · have h := of_decide_eq_true h
    refine wp_seq (wp_asg (wp_op (wp_of (a := .int o) rfl (wp_of (a := .int u) rfl (w_mod u0 ⟨_, rfl, ?_⟩)))))
    refine wp_seq (wp_bind (wp_op (wp_of (a := .int o) rfl (wp_of (a := .int u) rfl (w_div u0 u1 ?_)))))
    refine wp_of rfl ?_
    refine wp_ret (wp_of rfl ?_)
    exact q _ _ (Int.emod_nonneg _ (by omega)) (Int.emod_lt_of_pos _ u0) ⟨_, _, _, .inl ⟨rfl, rfl⟩, Int.ediv_nonneg o0 (by omega), m0, m1, n0, by omega⟩
  · refine wp_of rfl ?_
    refine wp_seq (wp_of rfl ?_)
    have l5 : 0 ≤ (n + 1) % 5 ∧ (n + 1) % 5 < 5 := ⟨Int.emod_nonneg _ (by decide), Int.emod_lt_of_pos _ (by decide)⟩
    refine wp_seq (wp_asg (wp_op (wp_of (a := .lst [.int 2147483647, .int 2147483629, .int 2147483587, .int 2147483579, .int 2147483563]) rfl (wp_of (a := .int ((n + 1) % 5)) rfl ?_))))
    have pr : ∃ pr : Int, 2147483563 ≤ pr ∧ pr ≤ 2147483647 ∧ atI [Dat.int 2147483647, .int 2147483629, .int 2147483587, .int 2147483579, .int 2147483563] ((n + 1) % 5) = some (.int pr) := by
      generalize (n + 1) % 5 = i at l5 ⊢
      have : i = 0 ∨ i = 1 ∨ i = 2 ∨ i = 3 ∨ i = 4 := by omega
      rcases this with rfl | rfl | rfl | rfl | rfl <;> exact ⟨_, by decide, by decide, rfl⟩
    obtain ⟨pr, p0, p1, pe⟩ := pr
    refine wp_of (S' := _) (show M.opt (atI [Dat.int 2147483647, .int 2147483629, .int 2147483587, .int 2147483579, .int 2147483563] ((n + 1) % 5)) _ = .ok (.int pr) _ by rw [pe]; rfl) ⟨_, rfl, ?_⟩
    have sq0 : 0 ≤ (n + 1) * (n + 1) := Int.mul_nonneg (by omega) (by omega)
    have sq1 : (n + 1) * (n + 1) ≤ 100000 * 100000 := Int.mul_le_mul (by omega) (by omega) (by omega) (by decide)
    have sq2 : 60089 * (n + 1) * (n + 1) = 60089 * ((n + 1) * (n + 1)) := Int.mul_assoc _ _ _
    repeat (first | with_reducible refine wp_par3 ?_ | with_reducible refine wp_par ?_ | with_reducible refine wp_seq ?_ | with_reducible refine wp_asg ?_ | with_reducible refine wp_ret ?_ | with_reducible refine wp_op ?_ | with_reducible refine wp_un ?_ | with_reducible refine wp_cb ?_ | with_reducible refine wp_cons ?_ | with_reducible refine wp_nil ?_ | with_reducible refine wp_c ?_ | with_reducible refine wp_andV ?_ | with_reducible refine wp_orV ?_ | with_reducible refine wp_notV ?_ | with_reducible refine wp_test ?_ | with_reducible refine wp_not ?_ | with_reducible refine wp_tup ?_ | with_reducible refine wp_lst ?_ | with_reducible refine wp_call ?_ | with_reducible refine w_add ?_ | with_reducible refine w_sub ?_ | with_reducible refine w_int ?_ | ((with_reducible show wp (xVar _ _) _ _); refine wp_var rfl ?_) | ((with_reducible show wp (dMul _ _) _ _); refine w_mul (by first | exact .inl (by omega) | exact .inr (by omega)) ?_) | ((with_reducible show wp (dMod _ _) _ _); refine w_mod (by omega) ?_) | ((with_reducible show wp (dDiv _ _) _ _); refine w_div (by omega) (by omega) ?_) | ((with_reducible show wp (dPow _ _) _ _); refine w_pow (by first | omega | (constructor <;> omega)) (by omega) ?_) | ((with_reducible show wp (dIxLo _ _) _ _); refine wp_of rfl ?_) | ((with_reducible show wp (dGt _ _) _ _); refine wp_of rfl ?_) | ((with_reducible show wp (dLen _) _ _); refine wp_of rfl ?_) | ((with_reducible show wp (dNeg _) _ _); refine wp_of rfl ?_) | ((with_reducible show wp (dEq _ _) _ _); refine wp_of rfl ?_) | refine ⟨Nat.le_of_ble_eq_true rfl, ?_⟩ | refine ⟨_, rfl, ?_⟩ | refine ⟨_, _, _, rfl, ?_⟩ | refine ⟨_, _, rfl, ?_⟩ | dsimp only)
    refine q _ _ (Int.emod_nonneg _ (by omega)) (Int.emod_lt_of_pos _ u0) ⟨_, _, _, .inl ⟨rfl, rfl⟩, o0, m0, m1, by omega, by omega⟩
theorem w_take1 {k : Nat} {u : Int} {a : Dat} {o m n : Int} {C : Dat → List Dat → Prop} (o0 : 0 ≤ o) (m0 : 0 ≤ m) (m1 : m < 2305843009213693921) (n0 : 0 ≤ n) (nk : n + ((k + 1 : Nat) : Int) ≤ 100000) (u0 : 0 < u) (u1 : u < 2 ^ 200) (q : ∀ r S', 0 ≤ r → r < u → Pot 1 k S' → C (.int r) S') : wp (L__law_take [.loc 1, .int u]) [a, .lst [.int o, .int m, .int n]] C := by
  refine wp_run (wp_seq (wp_if (wp_test (wp_of (a := .bl (decide (0 < o))) rfl ⟨_, rfl, fun h => ?_, fun h => ?_⟩))))
  · have h := of_decide_eq_true h
    refine wp_seq (wp_asg (wp_op (wp_of (a := .int o) rfl (wp_of (a := .int u) rfl (w_mod u0 ⟨_, rfl, ?_⟩)))))
    refine wp_seq (wp_bind (wp_op (wp_of (a := .int o) rfl (wp_of (a := .int u) rfl (w_div u0 u1 ?_)))))
    refine wp_of rfl ?_
    refine wp_ret (wp_of rfl ?_)
    exact q _ _ (Int.emod_nonneg _ (by omega)) (Int.emod_lt_of_pos _ u0) ⟨_, _, _, .inr (.inl ⟨_, rfl, rfl⟩), Int.ediv_nonneg o0 (by omega), m0, m1, n0, by omega⟩
  · refine wp_of rfl ?_
    refine wp_seq (wp_of rfl ?_)
    have l5 : 0 ≤ (n + 1) % 5 ∧ (n + 1) % 5 < 5 := ⟨Int.emod_nonneg _ (by decide), Int.emod_lt_of_pos _ (by decide)⟩
    refine wp_seq (wp_asg (wp_op (wp_of (a := .lst [.int 2147483647, .int 2147483629, .int 2147483587, .int 2147483579, .int 2147483563]) rfl (wp_of (a := .int ((n + 1) % 5)) rfl ?_))))
    have pr : ∃ pr : Int, 2147483563 ≤ pr ∧ pr ≤ 2147483647 ∧ atI [Dat.int 2147483647, .int 2147483629, .int 2147483587, .int 2147483579, .int 2147483563] ((n + 1) % 5) = some (.int pr) := by
      generalize (n + 1) % 5 = i at l5 ⊢
      have : i = 0 ∨ i = 1 ∨ i = 2 ∨ i = 3 ∨ i = 4 := by omega
      rcases this with rfl | rfl | rfl | rfl | rfl <;> exact ⟨_, by decide, by decide, rfl⟩
    obtain ⟨pr, p0, p1, pe⟩ := pr
    refine wp_of (S' := _) (show M.opt (atI [Dat.int 2147483647, .int 2147483629, .int 2147483587, .int 2147483579, .int 2147483563] ((n + 1) % 5)) _ = .ok (.int pr) _ by rw [pe]; rfl) ⟨_, rfl, ?_⟩
    have sq0 : 0 ≤ (n + 1) * (n + 1) := Int.mul_nonneg (by omega) (by omega)
    have sq1 : (n + 1) * (n + 1) ≤ 100000 * 100000 := Int.mul_le_mul (by omega) (by omega) (by omega) (by decide)
    have sq2 : 60089 * (n + 1) * (n + 1) = 60089 * ((n + 1) * (n + 1)) := Int.mul_assoc _ _ _
    repeat (first | with_reducible refine wp_par3 ?_ | with_reducible refine wp_par ?_ | with_reducible refine wp_seq ?_ | with_reducible refine wp_asg ?_ | with_reducible refine wp_ret ?_ | with_reducible refine wp_op ?_ | with_reducible refine wp_un ?_ | with_reducible refine wp_cb ?_ | with_reducible refine wp_cons ?_ | with_reducible refine wp_nil ?_ | with_reducible refine wp_c ?_ | with_reducible refine wp_andV ?_ | with_reducible refine wp_orV ?_ | with_reducible refine wp_notV ?_ | with_reducible refine wp_test ?_ | with_reducible refine wp_not ?_ | with_reducible refine wp_tup ?_ | with_reducible refine wp_lst ?_ | with_reducible refine wp_call ?_ | with_reducible refine w_add ?_ | with_reducible refine w_sub ?_ | with_reducible refine w_int ?_ | ((with_reducible show wp (xVar _ _) _ _); refine wp_var rfl ?_) | ((with_reducible show wp (dMul _ _) _ _); refine w_mul (by first | exact .inl (by omega) | exact .inr (by omega)) ?_) | ((with_reducible show wp (dMod _ _) _ _); refine w_mod (by omega) ?_) | ((with_reducible show wp (dDiv _ _) _ _); refine w_div (by omega) (by omega) ?_) | ((with_reducible show wp (dPow _ _) _ _); refine w_pow (by first | omega | (constructor <;> omega)) (by omega) ?_) | ((with_reducible show wp (dIxLo _ _) _ _); refine wp_of rfl ?_) | ((with_reducible show wp (dGt _ _) _ _); refine wp_of rfl ?_) | ((with_reducible show wp (dLen _) _ _); refine wp_of rfl ?_) | ((with_reducible show wp (dNeg _) _ _); refine wp_of rfl ?_) | ((with_reducible show wp (dEq _ _) _ _); refine wp_of rfl ?_) | refine ⟨Nat.le_of_ble_eq_true rfl, ?_⟩ | refine ⟨_, rfl, ?_⟩ | refine ⟨_, _, _, rfl, ?_⟩ | refine ⟨_, _, rfl, ?_⟩ | dsimp only)
    refine q _ _ (Int.emod_nonneg _ (by omega)) (Int.emod_lt_of_pos _ u0) ⟨_, _, _, .inr (.inl ⟨_, rfl, rfl⟩), o0, m0, m1, by omega, by omega⟩
theorem w_take2 {k : Nat} {u : Int} {a b : Dat} {o m n : Int} {C : Dat → List Dat → Prop} (o0 : 0 ≤ o) (m0 : 0 ≤ m) (m1 : m < 2305843009213693921) (n0 : 0 ≤ n) (nk : n + ((k + 1 : Nat) : Int) ≤ 100000) (u0 : 0 < u) (u1 : u < 2 ^ 200) (q : ∀ r S', 0 ≤ r → r < u → Pot 2 k S' → C (.int r) S') : wp (L__law_take [.loc 2, .int u]) [a, b, .lst [.int o, .int m, .int n]] C := by
  refine wp_run (wp_seq (wp_if (wp_test (wp_of (a := .bl (decide (0 < o))) rfl ⟨_, rfl, fun h => ?_, fun h => ?_⟩))))
  · have h := of_decide_eq_true h
    refine wp_seq (wp_asg (wp_op (wp_of (a := .int o) rfl (wp_of (a := .int u) rfl (w_mod u0 ⟨_, rfl, ?_⟩)))))
    refine wp_seq (wp_bind (wp_op (wp_of (a := .int o) rfl (wp_of (a := .int u) rfl (w_div u0 u1 ?_)))))
    refine wp_of rfl ?_
    refine wp_ret (wp_of rfl ?_)
    exact q _ _ (Int.emod_nonneg _ (by omega)) (Int.emod_lt_of_pos _ u0) ⟨_, _, _, .inr (.inr ⟨_, _, rfl, rfl⟩), Int.ediv_nonneg o0 (by omega), m0, m1, n0, by omega⟩
  · refine wp_of rfl ?_
    refine wp_seq (wp_of rfl ?_)
    have l5 : 0 ≤ (n + 1) % 5 ∧ (n + 1) % 5 < 5 := ⟨Int.emod_nonneg _ (by decide), Int.emod_lt_of_pos _ (by decide)⟩
    refine wp_seq (wp_asg (wp_op (wp_of (a := .lst [.int 2147483647, .int 2147483629, .int 2147483587, .int 2147483579, .int 2147483563]) rfl (wp_of (a := .int ((n + 1) % 5)) rfl ?_))))
    have pr : ∃ pr : Int, 2147483563 ≤ pr ∧ pr ≤ 2147483647 ∧ atI [Dat.int 2147483647, .int 2147483629, .int 2147483587, .int 2147483579, .int 2147483563] ((n + 1) % 5) = some (.int pr) := by
      generalize (n + 1) % 5 = i at l5 ⊢
      have : i = 0 ∨ i = 1 ∨ i = 2 ∨ i = 3 ∨ i = 4 := by omega
      rcases this with rfl | rfl | rfl | rfl | rfl <;> exact ⟨_, by decide, by decide, rfl⟩
    obtain ⟨pr, p0, p1, pe⟩ := pr
    refine wp_of (S' := _) (show M.opt (atI [Dat.int 2147483647, .int 2147483629, .int 2147483587, .int 2147483579, .int 2147483563] ((n + 1) % 5)) _ = .ok (.int pr) _ by rw [pe]; rfl) ⟨_, rfl, ?_⟩
    have sq0 : 0 ≤ (n + 1) * (n + 1) := Int.mul_nonneg (by omega) (by omega)
    have sq1 : (n + 1) * (n + 1) ≤ 100000 * 100000 := Int.mul_le_mul (by omega) (by omega) (by omega) (by decide)
    have sq2 : 60089 * (n + 1) * (n + 1) = 60089 * ((n + 1) * (n + 1)) := Int.mul_assoc _ _ _
    repeat (first | with_reducible refine wp_par3 ?_ | with_reducible refine wp_par ?_ | with_reducible refine wp_seq ?_ | with_reducible refine wp_asg ?_ | with_reducible refine wp_ret ?_ | with_reducible refine wp_op ?_ | with_reducible refine wp_un ?_ | with_reducible refine wp_cb ?_ | with_reducible refine wp_cons ?_ | with_reducible refine wp_nil ?_ | with_reducible refine wp_c ?_ | with_reducible refine wp_andV ?_ | with_reducible refine wp_orV ?_ | with_reducible refine wp_notV ?_ | with_reducible refine wp_test ?_ | with_reducible refine wp_not ?_ | with_reducible refine wp_tup ?_ | with_reducible refine wp_lst ?_ | with_reducible refine wp_call ?_ | with_reducible refine w_add ?_ | with_reducible refine w_sub ?_ | with_reducible refine w_int ?_ | ((with_reducible show wp (xVar _ _) _ _); refine wp_var rfl ?_) | ((with_reducible show wp (dMul _ _) _ _); refine w_mul (by first | exact .inl (by omega) | exact .inr (by omega)) ?_) | ((with_reducible show wp (dMod _ _) _ _); refine w_mod (by omega) ?_) | ((with_reducible show wp (dDiv _ _) _ _); refine w_div (by omega) (by omega) ?_) | ((with_reducible show wp (dPow _ _) _ _); refine w_pow (by first | omega | (constructor <;> omega)) (by omega) ?_) | ((with_reducible show wp (dIxLo _ _) _ _); refine wp_of rfl ?_) | ((with_reducible show wp (dGt _ _) _ _); refine wp_of rfl ?_) | ((with_reducible show wp (dLen _) _ _); refine wp_of rfl ?_) | ((with_reducible show wp (dNeg _) _ _); refine wp_of rfl ?_) | ((with_reducible show wp (dEq _ _) _ _); refine wp_of rfl ?_) | refine ⟨Nat.le_of_ble_eq_true rfl, ?_⟩ | refine ⟨_, rfl, ?_⟩ | refine ⟨_, _, _, rfl, ?_⟩ | refine ⟨_, _, rfl, ?_⟩ | dsimp only)
    refine q _ _ (Int.emod_nonneg _ (by omega)) (Int.emod_lt_of_pos _ u0) ⟨_, _, _, .inr (.inr ⟨_, _, rfl, rfl⟩), o0, m0, m1, by omega, by omega⟩
theorem w_take {i k : Nat} {S : List Dat} {u : Int} {C : Dat → List Dat → Prop} (h : Pot i (k + 1) S) (u0 : 0 < u) (u1 : u < 2 ^ 200) (q : ∀ r S', 0 ≤ r → r < u → Pot i k S' → C (.int r) S') : wp (L__law_take [.loc i, .int u]) S C := by
  obtain ⟨o, m, n, h, o0, m0, m1, n0, nk⟩ := h
  rcases h with ⟨rfl, rfl⟩ | ⟨a, rfl, rfl⟩ | ⟨a, b, rfl, rfl⟩
  · exact w_take0 o0 m0 m1 n0 nk u0 u1 q
  · exact w_take1 o0 m0 m1 n0 nk u0 u1 q
  · exact w_take2 o0 m0 m1 n0 nk u0 u1 q
theorem at_nat {α : Type} {xs : List α} {r : Int} (h0 : 0 ≤ r) (h1 : r < xs.length) : ∃ x, atI xs r = some x ∧ x ∈ xs := by
  obtain ⟨n, rfl⟩ : ∃ n : Nat, r = n := ⟨r.toNat, (Int.toNat_of_nonneg h0).symm⟩
  have lt : n < xs.length := by omega
  refine ⟨xs[n], ?_, List.getElem_mem lt⟩
  unfold atI ixN
  have e : ¬ ((n : Int) < 0) := by omega
  simp [e, lt]
theorem w_of {k : Nat} {S : List Dat} {xs : List Dat} {C : Dat → List Dat → Prop} (h : Pot ℓ (k + 1) S) (l0 : 0 < xs.length) (l1 : xs.length ≤ 1000) (q : ∀ x S', x ∈ xs → Pot ℓ k S' → C x S') : wp (L__law_of [.loc ℓ, .lst xs]) S C := by
  refine wp_run ?_
  repeat (first | with_reducible refine wp_par3 ?_ | with_reducible refine wp_par ?_ | with_reducible refine wp_seq ?_ | with_reducible refine wp_asg ?_ | with_reducible refine wp_ret ?_ | with_reducible refine wp_op ?_ | with_reducible refine wp_un ?_ | with_reducible refine wp_cb ?_ | with_reducible refine wp_cons ?_ | with_reducible refine wp_nil ?_ | with_reducible refine wp_c ?_ | with_reducible refine wp_andV ?_ | with_reducible refine wp_orV ?_ | with_reducible refine wp_notV ?_ | with_reducible refine wp_test ?_ | with_reducible refine wp_not ?_ | with_reducible refine wp_tup ?_ | with_reducible refine wp_lst ?_ | with_reducible refine wp_call ?_ | with_reducible refine w_add ?_ | with_reducible refine w_sub ?_ | with_reducible refine w_int ?_ | ((with_reducible show wp (xVar _ _) _ _); refine wp_var rfl ?_) | ((with_reducible show wp (dMul _ _) _ _); refine w_mul (by first | exact .inl (by omega) | exact .inr (by omega)) ?_) | ((with_reducible show wp (dMod _ _) _ _); refine w_mod (by omega) ?_) | ((with_reducible show wp (dDiv _ _) _ _); refine w_div (by omega) (by omega) ?_) | ((with_reducible show wp (dPow _ _) _ _); refine w_pow (by first | omega | (constructor <;> omega)) (by omega) ?_) | ((with_reducible show wp (dIxLo _ _) _ _); refine wp_of rfl ?_) | ((with_reducible show wp (dGt _ _) _ _); refine wp_of rfl ?_) | ((with_reducible show wp (dLen _) _ _); refine wp_of rfl ?_) | ((with_reducible show wp (dNeg _) _ _); refine wp_of rfl ?_) | ((with_reducible show wp (dEq _ _) _ _); refine wp_of rfl ?_) | refine ⟨Nat.le_of_ble_eq_true rfl, ?_⟩ | refine ⟨_, rfl, ?_⟩ | refine ⟨_, _, _, rfl, ?_⟩ | refine ⟨_, _, rfl, ?_⟩ | dsimp only)
  refine w_take h (by omega) (by omega) fun r S' r0 r1 hp => ?_
  obtain ⟨x, ex, mx⟩ := at_nat r0 r1
  refine wp_of (show M.opt (atI xs r) S' = .ok x S' by rw [ex]; rfl) ?_
  exact q x S' mx hp
theorem wp_par3 {S : List Dat} {ρ : Env} {i j k : Nat} {l : Env → M (List Dat)} {C : Flow → List Dat → Prop} (h : wp (l ρ) S fun ds S' => ∃ a b c, ds = [a, b, c] ∧ C (.nx (((ρ.set i (some a)).set j (some b)).set k (some c))) S') : wp (sPar3 i j k l ρ) S C := wp_bind (wp_mono h fun ds S' ⟨a, b, c, e, q⟩ => by subst e; exact q)
theorem wp_par {S : List Dat} {ρ : Env} {i j : Nat} {l : Env → M (List Dat)} {C : Flow → List Dat → Prop} (h : wp (l ρ) S fun ds S' => ∃ a b, ds = [a, b] ∧ C (.nx ((ρ.set i (some a)).set j (some b))) S') : wp (sPar i j l ρ) S C := wp_bind (wp_mono h fun ds S' ⟨a, b, e, q⟩ => by subst e; exact q)
theorem w_ofS {k : Nat} {S : List Dat} {C : Dat → List Dat → Prop} (ss : List Str) (h : Pot ℓ (k + 1) S) (l0 : 0 < ss.length) (l1 : ss.length ≤ 1000) (q : ∀ x S', x ∈ ss → Pot ℓ k S' → C (.str x) S') : wp (L__law_of [.loc ℓ, .lst (ss.map .str)]) S C :=
  w_of h (by rw [List.length_map]; exact l0) (by rw [List.length_map]; exact l1) fun x S' mx hp => by
    obtain ⟨s, ms, rfl⟩ := List.mem_map.mp mx
    exact q s S' ms hp
theorem w_ofI {k : Nat} {S : List Dat} {C : Dat → List Dat → Prop} (ss : List Int) (h : Pot ℓ (k + 1) S) (l0 : 0 < ss.length) (l1 : ss.length ≤ 1000) (q : ∀ x S', x ∈ ss → Pot ℓ k S' → C (.int x) S') : wp (L__law_of [.loc ℓ, .lst (ss.map .int)]) S C :=
  w_of h (by rw [List.length_map]; exact l0) (by rw [List.length_map]; exact l1) fun x S' mx hp => by
    obtain ⟨s, ms, rfl⟩ := List.mem_map.mp mx
    exact q s S' ms hp
theorem powz {S : List Dat} : dPowZ (.int (10 ^ 60)) (.int 5) S = .ok (.int ((10 ^ 60) ^ 5)) S := by
  have h : bPowZ (10 ^ 60) 5 = true := by decide +kernel
  show (M.need (bPowZ (10 ^ 60) 5) >>= fun _ => pure (Dat.int ((10 ^ 60) ^ (5 : Int).toNat)) : M Dat) S = _
  rw [h]
  rfl
theorem pow60 {S : List Dat} : dPow (.int 10) (.int 60) S = .ok (.int (10 ^ 60)) S := by
  have h : bPow 10 60 = true := by decide +kernel
  show (M.need (bPow 10 60) >>= fun _ => pure (Dat.int (10 ^ (60 : Int).toNat)) : M Dat) S = _
  rw [h]
  rfl
theorem pow18 {S : List Dat} : dPow (.int 10) (.int 18) S = .ok (.int (10 ^ 18)) S := by
  have h : bPow 10 18 = true := by decide +kernel
  show (M.need (bPow 10 18) >>= fun _ => pure (Dat.int (10 ^ (18 : Int).toNat)) : M Dat) S = _
  rw [h]
  rfl
abbrev potOwn : Env → M Dat := xOp dMul (xOp dMod (xCB dInt (xCons (xCB dAbs (xCons (xVar 2) xNil)) xNil)) (xOp dPowZ (xOp dPow (xC (.int 10)) (xC (.int 60))) (xC (.int 5)))) (xCB dInt (xCons (xOp dGe (xCB dAbs (xCons (xVar 2) xNil)) (xOp dPow (xC (.int 10)) (xC (.int 18)))) xNil))
theorem w_own {ns : List Int} {i c : Int} {S : List Dat} {C : Dat → List Dat → Prop} (q : ∀ o : Int, 0 ≤ o → C (.int o) S) : wp (potOwn [some (.scr ns), some (.int i), some (.int c), none]) S C := by
  refine wp_op (wp_op (wp_of (a := .int (if c < 0 then -c else c)) (S' := S) rfl ?_))
  refine wp_op (wp_op (wp_of (a := .int 10) (S' := S) rfl (wp_of (a := .int 60) (S' := S) rfl (wp_of pow60 ?_))))
  refine wp_of (a := .int 5) (S' := S) rfl (wp_of powz ?_)
  have p : (0 : Int) < (10 ^ 60) ^ 5 := by decide +kernel
  generalize ((10 : Int) ^ 60) ^ 5 = T at p ⊢
  refine w_mod p ?_
  refine wp_cb (wp_cons (wp_op (wp_of (a := .int (if c < 0 then -c else c)) (S' := S) rfl ?_)))
  refine wp_op (wp_of (a := .int 10) (S' := S) rfl (wp_of (a := .int 18) (S' := S) rfl (wp_of pow18 ?_)))
  refine wp_of (a := .bl (decide ((10 ^ 18 : Int) ≤ (if c < 0 then -c else c)))) (S' := S) rfl (wp_nil ?_)
  refine wp_of (a := .int (if decide ((10 ^ 18 : Int) ≤ (if c < 0 then -c else c)) then 1 else 0)) (S' := S) rfl ?_
  have a0 : 0 ≤ (if c < 0 then -c else c) % T := Int.emod_nonneg _ (by omega)
  generalize (if c < 0 then -c else c) % T = A at a0 ⊢
  generalize decide ((10 ^ 18 : Int) ≤ (if c < 0 then -c else c)) = b
  cases b with
  | true => exact w_mul (.inr (by decide)) (q _ (Int.mul_nonneg a0 (by decide)))
  | false => exact w_mul (.inr (by decide)) (q _ (Int.mul_nonneg a0 (by decide)))
theorem scr_at {ns : List Int} {i : Nat} {S : List Dat} (h : i < ns.length) : ∃ c, dIxSc (.scr ns) (.int (i : Int)) S = .ok (.int c) S := by
  refine ⟨ns[i], ?_⟩
  have e : atI ns (i : Int) = some ns[i] := by
    unfold atI ixN
    have : (i : Int) < (ns.length : Int) := by omega
    simp [this, h]
  show (M.opt (atI ns (i : Int)) >>= fun n => pure (Dat.int n) : M Dat) S = _
  rw [e]
  rfl
abbrev potMid : Env → M Dat := (xOp dMod (xOp dAdd (xOp dAdd (xOp dMul (xOp dMod (xCB dInt (xCons (xVar 2) xNil)) (xC (.int 2305843009213693951))) (xC (.int 74093))) (xOp dMul (xOp dMul (xC (.int 7013)) (xVar 1)) (xVar 1))) (xC (.int 41))) (xC (.int 2305843009213693921)))
theorem w_mid {a0 : Option Dat} {o i c : Int} {S : List Dat} {C : Dat → List Dat → Prop} (ih : -(2 ^ 64) < i ∧ i < 2 ^ 64) (q : ∀ m : Int, 0 ≤ m → m < 2305843009213693921 → C (.int m) S) : wp (potMid [a0, some (.int i), some (.int c), some (.int o)]) S C := by
  refine wp_op (wp_op (wp_op (wp_op (wp_op (wp_of (a := .int c) (S' := S) rfl (wp_of (a := .int 2305843009213693951) (S' := S) rfl ?_))))))
  refine w_mod (by decide) ?_
  have b0 : 0 ≤ c % 2305843009213693951 := Int.emod_nonneg _ (by decide)
  have b1 : c % 2305843009213693951 < 2305843009213693951 := Int.emod_lt_of_pos _ (by decide)
  generalize c % 2305843009213693951 = r at b0 b1 ⊢
  refine wp_of (a := .int 74093) (S' := S) rfl (w_mul (.inr (by decide)) ?_)
  generalize r * 74093 = w
  refine wp_op ?_
  refine wp_op ?_
  refine wp_of (a := .int 7013) (S' := S) rfl ?_
  refine wp_of (a := .int i) (S' := S) rfl ?_
  refine w_mul (i := 7013) (j := i) (.inl ⟨by decide, by decide⟩) ?_
  refine wp_of (a := .int i) (S' := S) rfl (w_mul (.inr ih) (w_add ?_))
  refine wp_of (a := .int 41) (S' := S) rfl (w_add ?_)
  refine wp_of (a := .int 2305843009213693921) (S' := S) rfl (w_mod (by decide) ?_)
  generalize hm : (w + 7013 * i * i + 41) % 2305843009213693921 = m
  have m0 : 0 ≤ m := hm ▸ Int.emod_nonneg _ (by decide)
  have m1 : m < 2305843009213693921 := hm ▸ Int.emod_lt_of_pos _ (by decide)
  exact q m m0 m1
theorem w_pot {ns : List Int} {i : Nat} {S : List Dat} {C : Dat → List Dat → Prop} (l : S.length = i) (h : i < 3) (q : ∀ S', Pot i 100000 S' → S'.length = i + 1 → C (.loc i) S') : wp (L__law_pot_of [.scr ns, .int (i : Int)]) S C := by
  have ih : -(2 ^ 64) < (i : Int) ∧ (i : Int) < 2 ^ 64 := by omega
  refine wp_run ?_
  have rest : ∀ c : Int, wp ((sSeq (sAsg potOwn (gN 3)) (sRetLo (xLst (xCons (xVar 3) (xCons potMid (xCons (xC (.int 0)) xNil))))) ) [some (.scr ns), some (.int (i : Int)), some (.int c), none]) S fun f S' => wp (outF f) S' C := fun c => by
    refine wp_seq (wp_asg (w_own fun o o0 => ⟨_, rfl, ?_⟩))
    refine wp_bind (wp_lst (wp_cons (wp_of (a := .int o) (S' := S) rfl (wp_cons ?_))))
    refine w_mid ih fun m m0 m1 => ?_
    refine wp_cons (wp_of (a := .int 0) (S' := S) rfl (wp_nil ⟨Nat.le_of_ble_eq_true rfl, ?_⟩))
    show wp (outF (.rt (.loc S.length))) (S ++ [.lst [.int o, .int m, .int 0]]) C
    rw [l]
    refine wp_of rfl (q _ ⟨o, m, 0, ?_, o0, m0, m1, by decide, by decide⟩ (by rw [List.length_append, l]; rfl))
    match S, i, l, h with
    | [], _, rfl, _ => exact .inl ⟨rfl, rfl⟩
    | [a], _, rfl, _ => exact .inr (.inl ⟨a, rfl, rfl⟩)
    | [a, b], _, rfl, _ => exact .inr (.inr ⟨a, b, rfl, rfl⟩)
    | a :: b :: c :: r, _, e, h => rw [List.length_cons, List.length_cons, List.length_cons] at e; omega
  by_cases c : i < ns.length
  · obtain ⟨v, hv⟩ := @scr_at ns i S c
    refine wp_seq (wp_asg (wp_xif (wp_of (a := true) (S' := S) ?_ ⟨fun _ => ?_, nofun⟩)))
    · show Out.ok (decide ((i : Int) < (ns.length : Int))) S = _
      rw [decide_eq_true (by omega)]
    · refine wp_op (wp_of (a := .scr ns) (S' := S) rfl (wp_of (a := .int (i : Int)) (S' := S) rfl (wp_of hv ⟨_, rfl, ?_⟩)))
      exact rest v
  · refine wp_seq (wp_asg (wp_xif (wp_of (a := false) (S' := S) ?_ ⟨nofun, fun _ => ?_⟩)))
    · show Out.ok (decide ((i : Int) < (ns.length : Int))) S = _
      rw [decide_eq_false (by omega)]
    · refine wp_op (wp_op (wp_of (a := .int 53) (S' := S) rfl (wp_of (a := .int (i : Int)) (S' := S) rfl (w_mul (.inl (by decide)) ?_))))
      refine wp_of (a := .int 29) (S' := S) rfl (w_add ⟨_, rfl, ?_⟩)
      generalize (53 * (i : Int) + 29) = v
      exact rest v
theorem intsD_len {lo : Int} {n : Nat} : (intsD lo n).length = n := by unfold intsD; rw [List.length_map, List.length_range]
theorem Pot.len {i k : Nat} {S : List Dat} (h : Pot i k S) : S.length = i + 1 := by
  obtain ⟨o, m, n, h, _⟩ := h
  rcases h with ⟨rfl, rfl⟩ | ⟨a, rfl, rfl⟩ | ⟨a, b, rfl, rfl⟩ <;> rfl
theorem wp_lcT {S : List Dat} {ρ : Env} {it : Env → M (List Dat)} {g : Env → Dat → Option Env} {c : Env → M Bool} {e : Env → M Dat} {vs : List Nat} {C : Dat → List Dat → Prop} (h : wp (it ρ) S fun ds S1 => ds.length ≤ 100000 ∧ wp (compD g c e (wipeE ρ vs) ds) S1 fun xs S2 => C (.lst xs) S2) : wp (xLc it g c e vs ρ) S C :=
  wp_bind (wp_mono h fun ds S1 ⟨k1, k2⟩ => wp_need (decide_eq_true k1) (wp_bind k2))

theorem wp_calm2 {α : Type} {m : M α} {S : List Dat} {C : α → List Dat → Prop} (h : wp m S C) : wp (calm m) S C := wp_calm h
/-- a call in an empty store, of known answer -/
theorem callF_ok {F : List Dat → M Dat} {ds : List Dat} {d e : Dat} {S' : List Dat} (nl : noLocs ds = true) (h : F ds [] = .ok d S') (z : frz S' 40 d = some e) (S : List Dat) : callF F ds S = .ok e S := by
  unfold callF
  rw [nl]
  dsimp only
  rw [h]
  dsimp only
  rw [z]
theorem loop_it (ns : List Int) (r : Env) : ∃ t : Nat, (iRg1 (xCons (xCB dMax (xCons (xC (.int 1)) (xCons (xCB dMin (xCons (xC (.int 3)) (xCons (xCB dLen (xCons (xVar 0) xNil)) xNil))) xNil))) xNil) (some (.scr ns) :: r)) [] = .ok (intsD 0 t) [] ∧ t ≤ 3 := by
  generalize hj : (if (if ((ns.length : Nat) : Int) < 3 then ((ns.length : Nat) : Int) else 3) > 1 then (if ((ns.length : Nat) : Int) < 3 then ((ns.length : Nat) : Int) else 3) else 1) = j
  have j3 : 0 ≤ j ∧ j ≤ 3 := by subst hj; split <;> (try split) <;> omega
  refine ⟨j.toNat, ?_, by omega⟩
  have e : (iRg1 (xCons (xCB dMax (xCons (xC (.int 1)) (xCons (xCB dMin (xCons (xC (.int 3)) (xCons (xCB dLen (xCons (xVar 0) xNil)) xNil))) xNil))) xNil) (some (.scr ns) :: r)) [] = (M.need (decide (-(2 ^ 62) ≤ j ∧ j < 2 ^ 62)) >>= fun _ => pure (intsD 0 j.toNat) : M (List Dat)) [] := by rw [← hj]; rfl
  rw [e, decide_eq_true (by omega)]
  rfl
/-- the law's loop over its pots: each turn leaves one place more -/
theorem law_loop {ns : List Int} {b : Env → M Flow} {u0 : Option Dat} {r : Env} {C : Flow → List Dat → Prop}
    (step : ∀ (r' : Env) (S : List Dat), S.length < 3 → r'.length = r.length → wp (b (some (.scr ns) :: some (.int (S.length : Int)) :: r')) S fun f S' => match f with
      | .nx ρ2 => S'.length = S.length + 1 ∧ ∃ u r2, ρ2 = some (.scr ns) :: u :: r2 ∧ r2.length = r.length
      | _ => False)
    (stop : ∀ ρ S, C (.nx ρ) S) : wp (sFor (iRg1 (xCons (xCB dMax (xCons (xC (.int 1)) (xCons (xCB dMin (xCons (xC (.int 3)) (xCons (xCB dLen (xCons (xVar 0) xNil)) xNil))) xNil))) xNil)) (gN 1) b (some (.scr ns) :: u0 :: r)) [] C := by
  obtain ⟨t, et, t3⟩ := loop_it ns (u0 :: r)
  refine wp_bind (wp_of et ?_)
  refine wp_for (I := fun left ρ S => S.length + left.length = t ∧ left = (intsD 0 t).drop S.length ∧ ∃ u r', ρ = some (.scr ns) :: u :: r' ∧ r'.length = r.length) (fun d left ρ S ⟨l, el, u, r', eρ, lr⟩ => ?_) (fun ρ S _ => stop ρ S) _ _ _ ⟨by rw [intsD_len]; exact Nat.zero_add t, rfl, _, _, rfl, rfl⟩
  subst eρ
  rw [List.length_cons] at l
  have lt : S.length < (intsD 0 t).length := by rw [intsD_len]; omega
  have hd : d = .int (S.length : Int) ∧ left = (intsD 0 t).drop (S.length + 1) := by
    rw [List.drop_eq_getElem_cons lt] at el
    injection el with e1 e2
    refine ⟨?_, e2⟩
    rw [e1]
    simp [intsD]
  obtain ⟨rfl, hl⟩ := hd
  refine ⟨_, rfl, wp_mono (step r' S (by omega) lr) fun f S' k => ?_⟩
  cases f with
  | nx ρ2 =>
    obtain ⟨k1, u2, r2, k2, k3⟩ := k
    exact ⟨by omega, by rw [k1]; exact hl, u2, r2, k2, k3⟩
  | rt d => exact k.elim
  | bk ρ => exact k.elim
  | ct ρ => exact k.elim
end Zd

namespace Zd
open PySem PySem.Spec PyProof.Rows L2 Zg
def nmsC : List Dat := [.tup [.str "a", .str "b"], .tup [.str "id", .str "ref"], .tup [.str "no", .str "up"], .tup [.str "abcdefgh", .str "b"]]
def nmsP : List Dat := [.tup [.str "a", .str "b"], .tup [.str "shop", .str "till"], .tup [.str "add", .str "up"], .tup [.str "wide", .str "z"]]
def catD : Dat → Dat → Dat
  | .tup a, .tup b => .tup (a ++ b)
  | _, _ => .non
def outB : Out Dat → Bool
  | .ok (.bl true) _ => true
  | _ => false
def isOkD : Out Dat → Option Dat
  | .ok d _ => some d
  | _ => none
def allB (nm : Dat) : Bool := match isOkD (callF L__law_hand_world [nm] []) with
  | some w => noLocs [nm, w] && outB (L__law_releases_right [nm, w] []) && outB (L__law_sides_right [nm, w] []) && outB (L__law_numbers_right [nm, w] [])
  | none => false
set_option maxHeartbeats 0 in
theorem all16 : (nmsC.all fun x => nmsP.all fun y => allB (catD x y)) = true := by decide +kernel
theorem outB_is {o : Out Dat} (h : outB o = true) : ∃ S, o = .ok (.bl true) S := by
  unfold outB at h
  split at h
  · exact ⟨_, rfl⟩
  · cases h
theorem callF_S {F : List Dat → M Dat} {ds : List Dat} {d : Dat} {S0 : List Dat} (h : isOkD (callF F ds S0) = some d) (S : List Dat) : callF F ds S = .ok d S := by
  unfold callF isOkD at *
  cases nl : noLocs ds with
  | false => rw [nl] at h; cases h
  | true =>
    rw [nl] at h
    dsimp only at h ⊢
    cases eF : F ds [] with
    | bad => rw [eF] at h; cases h
    | er c fs S' =>
      rw [eF] at h
      dsimp only at h
      split at h
      · rename_i z; split at z <;> cases z
      · cases h
    | ok e S' =>
      rw [eF] at h
      dsimp only at h ⊢
      cases ez : frz S' 40 e with
      | none => rw [ez] at h; cases h
      | some g => rw [ez] at h; cases h; rfl
theorem callF_B {F : List Dat → M Dat} {ds : List Dat} (nl : noLocs ds = true) (h : outB (F ds []) = true) (S : List Dat) : callF F ds S = .ok (.bl true) S := by
  obtain ⟨S', e⟩ := outB_is h
  exact callF_ok nl e rfl S
theorem w_names {ℓ k : Nat} {S : List Dat} {C : Dat → List Dat → Prop} (h : Pot ℓ (k + 2) S) (q : ∀ x ∈ nmsC, ∀ y ∈ nmsP, ∀ S', Pot ℓ k S' → C (catD x y) S') : wp (L__law_names [.loc ℓ]) S C := by
  refine wp_run (wp_seq (wp_asg (wp_call (wp_cons (wp_of (a := .loc ℓ) (S' := S) rfl (wp_cons (wp_of (a := .lst nmsC) (S' := S) rfl (wp_nil ?_))))))))
  refine w_of (k := k + 1) h (by decide) (by decide) fun x S1 mx h1 => ⟨_, rfl, ?_⟩
  refine wp_ret (wp_op (wp_of (a := x) (S' := S1) rfl (wp_call (wp_cons (wp_of (a := .loc ℓ) (S' := S1) rfl (wp_cons (wp_of (a := .lst nmsP) (S' := S1) rfl (wp_nil ?_))))))))
  refine w_of (k := k) h1 (by decide) (by decide) fun y S2 my h2 => ?_
  have e : dCatT x y S2 = .ok (catD x y) S2 := by
    simp only [nmsC, List.mem_cons, List.not_mem_nil, or_false] at mx
    simp only [nmsP, List.mem_cons, List.not_mem_nil, or_false] at my
    rcases mx with rfl | rfl | rfl | rfl <;> rcases my with rfl | rfl | rfl | rfl <;> rfl
  exact wp_of e (wp_of rfl (q x mx y my S2 h2))
theorem law_true (ns : List Int) (few : ns.length ≤ 63) : ∃ S', L_law [.scr ns] [] = .ok (.bl true) S' := by
  have w : wp (L_law [.scr ns]) [] fun d _ => d = .bl true := by
    refine wp_run (wp_seq ?_)
    refine law_loop (u0 := none) (r := [none, none]) (fun r' S hS hr => ?_) fun ρ S => wp_of rfl rfl
    match r', hr with
    | [a, b], _ =>
      refine wp_seq (wp_asg (wp_call (wp_cons (wp_call (wp_cons (wp_of (a := .scr ns) (S' := S) rfl (wp_cons (wp_of (a := .int (S.length : Int)) (S' := S) rfl (wp_nil ?_)))))))))
      refine w_pot (i := S.length) rfl hS fun S1 hp l1 => wp_nil ?_
      refine w_names (k := 99998) hp fun x mx y my S2 hp2 => ⟨_, rfl, ?_⟩
      have l2 := hp2.len
      have al : allB (catD x y) = true := by
        have := all16
        rw [List.all_eq_true] at this
        have := this x mx
        rw [List.all_eq_true] at this
        exact this y my
      generalize catD x y = nm at al ⊢
      unfold allB at al
      cases ew : isOkD (callF L__law_hand_world [nm] []) with
      | none => rw [ew] at al; cases al
      | some wd =>
        rw [ew] at al
        simp only [Bool.and_eq_true] at al
        obtain ⟨⟨⟨nl, c1⟩, c2⟩, c3⟩ := al
        have one : ∀ {F : List Dat → M Dat}, outB (F [nm, wd] []) = true → ∀ {ρ : Env} {C : Bool → List Dat → Prop}, ρ[2]? = some (some nm) → ρ[3]? = some (some wd) → C false S2 → wp (bNot (bTest (xCall (callF F) (xCons (xVar 2) (xCons (xVar 3) xNil)))) ρ) S2 C := fun {F} c {ρ C} e2 e3 k => by
          refine wp_not (wp_test (wp_call (wp_cons (wp_var e2 (wp_cons (wp_var e3 (wp_nil ?_)))))))
          exact wp_of (callF_B nl c S2) ⟨_, rfl, k⟩
        refine wp_seq (wp_asg (wp_call (wp_cons (wp_of (a := nm) (S' := S2) rfl (wp_nil (wp_of (callF_S ew S2) ⟨_, rfl, ?_⟩))))))
        refine wp_seq (wp_if (wp_or (one c1 rfl rfl ⟨nofun, fun _ => one c2 rfl rfl ⟨nofun, fun _ => wp_of rfl ?_⟩⟩)))
        refine wp_if (one c3 rfl rfl ⟨nofun, fun _ => wp_of rfl ?_⟩)
        exact ⟨by omega, _, _, rfl, rfl⟩
  obtain ⟨d, S', e, rfl⟩ := wp_ok w
  exact ⟨S', e⟩
end Zd

namespace Zd
open PySem PySem.Spec PyProof.Rows L2 Zg
abbrev s_BadSpan___init__ : Stmt := (inClass (top 9) 0)
abbrev N_BadSpan___init__ : List Str := ["self", "value"]
abbrev P_BadSpan___init__ : List Str := ["self", "value"]
theorem sc_BadSpan___init__ : FnScope N_BadSpan___init__ P_BadSpan___init__ (defScope s_BadSpan___init__) := ⟨rfl, rfl, rfl, by decide +kernel, rfl, by decide +kernel, by decide +kernel⟩
abbrev s_BadPlan___init__ : Stmt := (inClass (top 11) 0)
abbrev N_BadPlan___init__ : List Str := ["self", "index"]
abbrev P_BadPlan___init__ : List Str := ["self", "index"]
theorem sc_BadPlan___init__ : FnScope N_BadPlan___init__ P_BadPlan___init__ (defScope s_BadPlan___init__) := ⟨rfl, rfl, rfl, by decide +kernel, rfl, by decide +kernel, by decide +kernel⟩
theorem ok_BadSpan {P : Program} {w : World} {K : PySem.W.Frag} {mg : Str → Option Value} {base : Heap} {CW C : Addr} {f : Addr} {fd : FuncData} (F : Fun K "__init__" "BadSpan.__init__" s_BadSpan___init__ f fd) (ET : ExT K mg CW C "BadSpan" "value") : FnOk P w K mg base CX0 1 f fd P_BadSpan___init__ (spIni C "value") := by
  refine F.ok sc_BadSpan___init__ (fun vs H Q E h => ?_) (fun cdv A outer s H vs Q E hr h => ?_)
  · obtain ⟨a, v, rfl, _⟩ := h
    rfl
  · obtain ⟨a, v, rfl, e, k⟩ := h
    exact ⟨_, (pss_one (ps_ost (pv 0) (pv 1))), v, rfl, .ref a, rfl, rd_ost ET.ox ET.nf e k⟩
theorem ok_BadPlan {P : Program} {w : World} {K : PySem.W.Frag} {mg : Str → Option Value} {base : Heap} {CW C : Addr} {f : Addr} {fd : FuncData} (F : Fun K "__init__" "BadPlan.__init__" s_BadPlan___init__ f fd) (ET : ExT K mg CW C "BadPlan" "index") : FnOk P w K mg base CX0 1 f fd P_BadPlan___init__ (spIni C "index") := by
  refine F.ok sc_BadPlan___init__ (fun vs H Q E h => ?_) (fun cdv A outer s H vs Q E hr h => ?_)
  · obtain ⟨a, v, rfl, _⟩ := h
    rfl
  · obtain ⟨a, v, rfl, e, k⟩ := h
    exact ⟨_, (pss_one (ps_ost (pv 0) (pv 1))), v, rfl, .ref a, rfl, rd_ost ET.ox ET.nf e k⟩

def spLaw (K : PySem.W.Frag) : Sp := fun vs H Q _ => ∃ (a : Addr) (ns : List Int), vs = [.ref a] ∧ SqL K H a (ns.map V.int) ∧ ns.length ≤ 63 ∧ ∀ H', Q (.bl true) H'
theorem law_end {P : Program} {w : World} {K : PySem.W.Frag} {mg : Str → Option Value} {base : Heap} {κ : String → Addr} {k : Nat} {f : Addr} {fd : FuncData} {ps : List Str} (F : FnG P w K mg base CX0 k f fd ps (spD ⟨K, κ⟩ 1 L_law)) : FnG P w K mg base CX0 k f fd ps (spLaw K) := by
  have up : ∀ vs H Q E, spLaw K vs H Q E → spD ⟨K, κ⟩ 1 L_law vs H Q E := fun vs H Q E ⟨a, ns, ev, hs, few, k⟩ => by
    subst ev
    obtain ⟨S', e⟩ := law_true ns few
    refine ⟨rfl, ⟨[], [], []⟩, [.scr ns], [], rfl, .one (isD_scr.mpr ⟨a, rfl, ?_⟩), ⟨rfl, List.nodup_nil, nofun, nofun, fun x h => (h.elim nofun nofun), fun n x d h => by simp at h⟩, ?_⟩
    · rcases hs with hs | hs
      · exact .inl ⟨hs, fun h => h.elim nofun fun h => h.elim nofun nofun⟩
      · exact .inr fun _ => .inr hs
    · rw [e]
      exact fun H' p' _ _ v hv => by rw [isD_bl.mp hv]; exact k H'
  exact ⟨fun vs H Q E h => F.many vs H Q E (up vs H Q E h), fun A c fr s H args us vs Q E room e0 b rel h => F.goes A c fr s H args us vs Q E room e0 b rel (up vs H Q E h)⟩
theorem all_mk {l : PySem.W.OpenLaw} {w : World} {K : PySem.W.Frag} {h : Heap} {mg : Str → Option Value} {fa : Addr}
    {n_MOST_LETTERS n_MOST_STEPS n_LEAST_NUMBERS n_LEAST_NARROW n_MOST_PACE n_MOST_IN_TWO_EVENTS : Tok}
    {C_World : Addr}
    {C_Kind : Addr}
    {C_Setup : Addr}
    {a_SIDES : Addr}
    {a_RULES : Addr}
    {a_MANNERS : Addr}
    {a_FILLS : Addr}
    {a_DEEDS : Addr}
    {a_READ_SIDES : Addr}
    {a_HOWS : Addr}
    {a_IN_TWO_EVENTS : Addr}
    {a_STEP_FORMS : Addr}
    {a_POSSIBLE : Addr}
    {a_CHANGES : Addr}
    {CW : Addr}
    {C_BadSpan : Addr} {nmBadSpan qBadSpan : Str} {NBadSpan : Addr} {bsBadSpan : List Value} {snBadSpan : List Str} {subBadSpan : List Value} {abBadSpan : Bool} {colBadSpan : Option Bool} {ddBadSpan : Option Addr} {m0BadSpan m1BadSpan m2BadSpan m3BadSpan m5BadSpan : Option Value}
    {C_BadPlan : Addr} {nmBadPlan qBadPlan : Str} {NBadPlan : Addr} {bsBadPlan : List Value} {snBadPlan : List Str} {subBadPlan : List Value} {abBadPlan : Bool} {colBadPlan : Option Bool} {ddBadPlan : Option Addr} {m0BadPlan m1BadPlan m2BadPlan m3BadPlan m5BadPlan : Option Value}
    {feditions_of : Addr} {odeditions_of aneditions_of : Option Addr} {sleditions_of : Array (Option Value)} {oceditions_of kVeditions_of dceditions_of pmeditions_of cdeditions_of cteditions_of : Value}
    {fother_side : Addr} {odother_side another_side : Option Addr} {slother_side : Array (Option Value)} {ocother_side kVother_side dcother_side pmother_side cdother_side ctother_side : Value}
    {fBadSpan___init__ : Addr} {odBadSpan___init__ anBadSpan___init__ : Option Addr} {slBadSpan___init__ : Array (Option Value)} {ocBadSpan___init__ kVBadSpan___init__ dcBadSpan___init__ pmBadSpan___init__ cdBadSpan___init__ ctBadSpan___init__ : Value}
    {fBadPlan___init__ : Addr} {odBadPlan___init__ anBadPlan___init__ : Option Addr} {slBadPlan___init__ : Array (Option Value)} {ocBadPlan___init__ kVBadPlan___init__ dcBadPlan___init__ pmBadPlan___init__ cdBadPlan___init__ ctBadPlan___init__ : Value}
    {fis_integer : Addr} {odis_integer anis_integer : Option Addr} {slis_integer : Array (Option Value)} {ocis_integer kVis_integer dcis_integer pmis_integer cdis_integer ctis_integer : Value}
    {fis_between : Addr} {odis_between anis_between : Option Addr} {slis_between : Array (Option Value)} {ocis_between kVis_between dcis_between pmis_between cdis_between ctis_between : Value}
    {flesser : Addr} {odlesser anlesser : Option Addr} {sllesser : Array (Option Value)} {oclesser kVlesser dclesser pmlesser cdlesser ctlesser : Value}
    {fgreater : Addr} {odgreater angreater : Option Addr} {slgreater : Array (Option Value)} {ocgreater kVgreater dcgreater pmgreater cdgreater ctgreater : Value}
    {fis_name : Addr} {odis_name anis_name : Option Addr} {slis_name : Array (Option Value)} {ocis_name kVis_name dcis_name pmis_name cdis_name ctis_name : Value}
    {fis_tuple_of : Addr} {odis_tuple_of anis_tuple_of : Option Addr} {slis_tuple_of : Array (Option Value)} {ocis_tuple_of kVis_tuple_of dcis_tuple_of pmis_tuple_of cdis_tuple_of ctis_tuple_of : Value}
    {fis_ascending : Addr} {odis_ascending anis_ascending : Option Addr} {slis_ascending : Array (Option Value)} {ocis_ascending kVis_ascending dcis_ascending pmis_ascending cdis_ascending ctis_ascending : Value}
    {fstep_form : Addr} {odstep_form anstep_form : Option Addr} {slstep_form : Array (Option Value)} {ocstep_form kVstep_form dcstep_form pmstep_form cdstep_form ctstep_form : Value}
    {fis_plain_part : Addr} {odis_plain_part anis_plain_part : Option Addr} {slis_plain_part : Array (Option Value)} {ocis_plain_part kVis_plain_part dcis_plain_part pmis_plain_part cdis_plain_part ctis_plain_part : Value}
    {fis_count : Addr} {odis_count anis_count : Option Addr} {slis_count : Array (Option Value)} {ocis_count kVis_count dcis_count pmis_count cdis_count ctis_count : Value}
    {f_first_word : Addr} {od_first_word an_first_word : Option Addr} {sl_first_word : Array (Option Value)} {oc_first_word kV_first_word dc_first_word pm_first_word cd_first_word ct_first_word : Value}
    {fis_span : Addr} {odis_span anis_span : Option Addr} {slis_span : Array (Option Value)} {ocis_span kVis_span dcis_span pmis_span cdis_span ctis_span : Value}
    {fis_fit : Addr} {odis_fit anis_fit : Option Addr} {slis_fit : Array (Option Value)} {ocis_fit kVis_fit dcis_fit pmis_fit cdis_fit ctis_fit : Value}
    {f_are_none_or_many : Addr} {od_are_none_or_many an_are_none_or_many : Option Addr} {sl_are_none_or_many : Array (Option Value)} {oc_are_none_or_many kV_are_none_or_many dc_are_none_or_many pm_are_none_or_many cd_are_none_or_many ct_are_none_or_many : Value}
    {fSetup___init__ : Addr} {odSetup___init__ anSetup___init__ : Option Addr} {slSetup___init__ : Array (Option Value)} {ocSetup___init__ kVSetup___init__ dcSetup___init__ pmSetup___init__ cdSetup___init__ ctSetup___init__ : Value}
    {fSetup_behind_begin : Addr} {odSetup_behind_begin anSetup_behind_begin : Option Addr} {slSetup_behind_begin : Array (Option Value)} {ocSetup_behind_begin kVSetup_behind_begin dcSetup_behind_begin pmSetup_behind_begin cdSetup_behind_begin ctSetup_behind_begin : Value}
    {fSetup_behind_end : Addr} {odSetup_behind_end anSetup_behind_end : Option Addr} {slSetup_behind_end : Array (Option Value)} {ocSetup_behind_end kVSetup_behind_end dcSetup_behind_end pmSetup_behind_end cdSetup_behind_end ctSetup_behind_end : Value}
    {fSetup_what_holds : Addr} {odSetup_what_holds anSetup_what_holds : Option Addr} {slSetup_what_holds : Array (Option Value)} {ocSetup_what_holds kVSetup_what_holds dcSetup_what_holds pmSetup_what_holds cdSetup_what_holds ctSetup_what_holds : Value}
    {f_twin : Addr} {od_twin an_twin : Option Addr} {sl_twin : Array (Option Value)} {oc_twin kV_twin dc_twin pm_twin cd_twin ct_twin : Value}
    {f_running : Addr} {od_running an_running : Option Addr} {sl_running : Array (Option Value)} {oc_running kV_running dc_running pm_running cd_running ct_running : Value}
    {f_can_add : Addr} {od_can_add an_can_add : Option Addr} {sl_can_add : Array (Option Value)} {oc_can_add kV_can_add dc_can_add pm_can_add cd_can_add ct_can_add : Value}
    {f_add : Addr} {od_add an_add : Option Addr} {sl_add : Array (Option Value)} {oc_add kV_add dc_add pm_add cd_add ct_add : Value}
    {f_can_drop : Addr} {od_can_drop an_can_drop : Option Addr} {sl_can_drop : Array (Option Value)} {oc_can_drop kV_can_drop dc_can_drop pm_can_drop cd_can_drop ct_can_drop : Value}
    {f_drop : Addr} {od_drop an_drop : Option Addr} {sl_drop : Array (Option Value)} {oc_drop kV_drop dc_drop pm_drop cd_drop ct_drop : Value}
    {f_can_mirror_up : Addr} {od_can_mirror_up an_can_mirror_up : Option Addr} {sl_can_mirror_up : Array (Option Value)} {oc_can_mirror_up kV_can_mirror_up dc_can_mirror_up pm_can_mirror_up cd_can_mirror_up ct_can_mirror_up : Value}
    {f_mirror_up : Addr} {od_mirror_up an_mirror_up : Option Addr} {sl_mirror_up : Array (Option Value)} {oc_mirror_up kV_mirror_up dc_mirror_up pm_mirror_up cd_mirror_up ct_mirror_up : Value}
    {f_is_up : Addr} {od_is_up an_is_up : Option Addr} {sl_is_up : Array (Option Value)} {oc_is_up kV_is_up dc_is_up pm_is_up cd_is_up ct_is_up : Value}
    {f_end_up : Addr} {od_end_up an_end_up : Option Addr} {sl_end_up : Array (Option Value)} {oc_end_up kV_end_up dc_end_up pm_end_up cd_end_up ct_end_up : Value}
    {f_can_mirror_down : Addr} {od_can_mirror_down an_can_mirror_down : Option Addr} {sl_can_mirror_down : Array (Option Value)} {oc_can_mirror_down kV_can_mirror_down dc_can_mirror_down pm_can_mirror_down cd_can_mirror_down ct_can_mirror_down : Value}
    {f_mirror_down : Addr} {od_mirror_down an_mirror_down : Option Addr} {sl_mirror_down : Array (Option Value)} {oc_mirror_down kV_mirror_down dc_mirror_down pm_mirror_down cd_mirror_down ct_mirror_down : Value}
    {f_is_down : Addr} {od_is_down an_is_down : Option Addr} {sl_is_down : Array (Option Value)} {oc_is_down kV_is_down dc_is_down pm_is_down cd_is_down ct_is_down : Value}
    {f_end_down : Addr} {od_end_down an_end_down : Option Addr} {sl_end_down : Array (Option Value)} {oc_end_down kV_end_down dc_end_down pm_end_down cd_end_down ct_end_down : Value}
    {f_has_both : Addr} {od_has_both an_has_both : Option Addr} {sl_has_both : Array (Option Value)} {oc_has_both kV_has_both dc_has_both pm_has_both cd_has_both ct_has_both : Value}
    {f_can_release : Addr} {od_can_release an_can_release : Option Addr} {sl_can_release : Array (Option Value)} {oc_can_release kV_can_release dc_can_release pm_can_release cd_can_release ct_can_release : Value}
    {f_can_withdraw : Addr} {od_can_withdraw an_can_withdraw : Option Addr} {sl_can_withdraw : Array (Option Value)} {oc_can_withdraw kV_can_withdraw dc_can_withdraw pm_can_withdraw cd_can_withdraw ct_can_withdraw : Value}
    {f_go_on : Addr} {od_go_on an_go_on : Option Addr} {sl_go_on : Array (Option Value)} {oc_go_on kV_go_on dc_go_on pm_go_on cd_go_on ct_go_on : Value}
    {f_can_grow : Addr} {od_can_grow an_can_grow : Option Addr} {sl_can_grow : Array (Option Value)} {oc_can_grow kV_can_grow dc_can_grow pm_can_grow cd_can_grow ct_can_grow : Value}
    {f_grow : Addr} {od_grow an_grow : Option Addr} {sl_grow : Array (Option Value)} {oc_grow kV_grow dc_grow pm_grow cd_grow ct_grow : Value}
    {f_can_purge : Addr} {od_can_purge an_can_purge : Option Addr} {sl_can_purge : Array (Option Value)} {oc_can_purge kV_can_purge dc_can_purge pm_can_purge cd_can_purge ct_can_purge : Value}
    {f_purge : Addr} {od_purge an_purge : Option Addr} {sl_purge : Array (Option Value)} {oc_purge kV_purge dc_purge pm_purge cd_purge ct_purge : Value}
    {fis_step : Addr} {odis_step anis_step : Option Addr} {slis_step : Array (Option Value)} {ocis_step kVis_step dcis_step pmis_step cdis_step ctis_step : Value}
    {fmoments : Addr} {odmoments anmoments : Option Addr} {slmoments : Array (Option Value)} {ocmoments kVmoments dcmoments pmmoments cdmoments ctmoments : Value}
    {fare_parts : Addr} {odare_parts anare_parts : Option Addr} {slare_parts : Array (Option Value)} {ocare_parts kVare_parts dcare_parts pmare_parts cdare_parts ctare_parts : Value}
    {f_is_part : Addr} {od_is_part an_is_part : Option Addr} {sl_is_part : Array (Option Value)} {oc_is_part kV_is_part dc_is_part pm_is_part cd_is_part ct_is_part : Value}
    {fKind___init__ : Addr} {odKind___init__ anKind___init__ : Option Addr} {slKind___init__ : Array (Option Value)} {ocKind___init__ kVKind___init__ dcKind___init__ pmKind___init__ cdKind___init__ ctKind___init__ : Value}
    {fKind___contains__ : Addr} {odKind___contains__ anKind___contains__ : Option Addr} {slKind___contains__ : Array (Option Value)} {ocKind___contains__ kVKind___contains__ dcKind___contains__ pmKind___contains__ cdKind___contains__ ctKind___contains__ : Value}
    {fKind___eq__ : Addr} {odKind___eq__ anKind___eq__ : Option Addr} {slKind___eq__ : Array (Option Value)} {ocKind___eq__ kVKind___eq__ dcKind___eq__ pmKind___eq__ cdKind___eq__ ctKind___eq__ : Value}
    {fKind___le__ : Addr} {odKind___le__ anKind___le__ : Option Addr} {slKind___le__ : Array (Option Value)} {ocKind___le__ kVKind___le__ dcKind___le__ pmKind___le__ cdKind___le__ ctKind___le__ : Value}
    {fKind___lt__ : Addr} {odKind___lt__ anKind___lt__ : Option Addr} {slKind___lt__ : Array (Option Value)} {ocKind___lt__ kVKind___lt__ dcKind___lt__ pmKind___lt__ cdKind___lt__ ctKind___lt__ : Value}
    {fWorld___init__ : Addr} {odWorld___init__ anWorld___init__ : Option Addr} {slWorld___init__ : Array (Option Value)} {ocWorld___init__ kVWorld___init__ dcWorld___init__ pmWorld___init__ cdWorld___init__ ctWorld___init__ : Value}
    {f_are_kinds : Addr} {od_are_kinds an_are_kinds : Option Addr} {sl_are_kinds : Array (Option Value)} {oc_are_kinds kV_are_kinds dc_are_kinds pm_are_kinds cd_are_kinds ct_are_kinds : Value}
    {f_are_columns : Addr} {od_are_columns an_are_columns : Option Addr} {sl_are_columns : Array (Option Value)} {oc_are_columns kV_are_columns dc_are_columns pm_are_columns cd_are_columns ct_are_columns : Value}
    {f_are_programs : Addr} {od_are_programs an_are_programs : Option Addr} {sl_are_programs : Array (Option Value)} {oc_are_programs kV_are_programs dc_are_programs pm_are_programs cd_are_programs ct_are_programs : Value}
    {f_is_program : Addr} {od_is_program an_is_program : Option Addr} {sl_is_program : Array (Option Value)} {oc_is_program kV_is_program dc_is_program pm_is_program cd_is_program ct_is_program : Value}
    {f_is_edition : Addr} {od_is_edition an_is_edition : Option Addr} {sl_is_edition : Array (Option Value)} {oc_is_edition kV_is_edition dc_is_edition pm_is_edition cd_is_edition ct_is_edition : Value}
    {f_are_rows : Addr} {od_are_rows an_are_rows : Option Addr} {sl_are_rows : Array (Option Value)} {oc_are_rows kV_are_rows dc_are_rows pm_are_rows cd_are_rows ct_are_rows : Value}
    {f_is_read : Addr} {od_is_read an_is_read : Option Addr} {sl_is_read : Array (Option Value)} {oc_is_read kV_is_read dc_is_read pm_is_read cd_is_read ct_is_read : Value}
    {f_is_write : Addr} {od_is_write an_is_write : Option Addr} {sl_is_write : Array (Option Value)} {oc_is_write kV_is_write dc_is_write pm_is_write cd_is_write ct_is_write : Value}
    {f_is_first_edition : Addr} {od_is_first_edition an_is_first_edition : Option Addr} {sl_is_first_edition : Array (Option Value)} {oc_is_first_edition kV_is_first_edition dc_is_first_edition pm_is_first_edition cd_is_first_edition ct_is_first_edition : Value}
    {f_many_in_two_events : Addr} {od_many_in_two_events an_many_in_two_events : Option Addr} {sl_many_in_two_events : Array (Option Value)} {oc_many_in_two_events kV_many_in_two_events dc_many_in_two_events pm_many_in_two_events cd_many_in_two_events ct_many_in_two_events : Value}
    {f_law_pot_of : Addr} {od_law_pot_of an_law_pot_of : Option Addr} {sl_law_pot_of : Array (Option Value)} {oc_law_pot_of kV_law_pot_of dc_law_pot_of pm_law_pot_of cd_law_pot_of ct_law_pot_of : Value}
    {f_law_take : Addr} {od_law_take an_law_take : Option Addr} {sl_law_take : Array (Option Value)} {oc_law_take kV_law_take dc_law_take pm_law_take cd_law_take ct_law_take : Value}
    {f_law_of : Addr} {od_law_of an_law_of : Option Addr} {sl_law_of : Array (Option Value)} {oc_law_of kV_law_of dc_law_of pm_law_of cd_law_of ct_law_of : Value}
    {f_law_hand_world : Addr} {od_law_hand_world an_law_hand_world : Option Addr} {sl_law_hand_world : Array (Option Value)} {oc_law_hand_world kV_law_hand_world dc_law_hand_world pm_law_hand_world cd_law_hand_world ct_law_hand_world : Value}
    {f_law_names : Addr} {od_law_names an_law_names : Option Addr} {sl_law_names : Array (Option Value)} {oc_law_names kV_law_names dc_law_names pm_law_names cd_law_names ct_law_names : Value}
    {f_law_refused : Addr} {od_law_refused an_law_refused : Option Addr} {sl_law_refused : Array (Option Value)} {oc_law_refused kV_law_refused dc_law_refused pm_law_refused cd_law_refused ct_law_refused : Value}
    {f_law_releases_right : Addr} {od_law_releases_right an_law_releases_right : Option Addr} {sl_law_releases_right : Array (Option Value)} {oc_law_releases_right kV_law_releases_right dc_law_releases_right pm_law_releases_right cd_law_releases_right ct_law_releases_right : Value}
    {f_law_sides_right : Addr} {od_law_sides_right an_law_sides_right : Option Addr} {sl_law_sides_right : Array (Option Value)} {oc_law_sides_right kV_law_sides_right dc_law_sides_right pm_law_sides_right cd_law_sides_right ct_law_sides_right : Value}
    {f_law_numbers_right : Addr} {od_law_numbers_right an_law_numbers_right : Option Addr} {sl_law_numbers_right : Array (Option Value)} {oc_law_numbers_right kV_law_numbers_right dc_law_numbers_right pm_law_numbers_right cd_law_numbers_right ct_law_numbers_right : Value}
    {flaw : Addr} {odlaw anlaw : Option Addr} {sllaw : Array (Option Value)} {oclaw kVlaw dclaw pmlaw cdlaw ctlaw : Value}
    (X : K.In h) (G : h.Ns mainGlobals mg) (hfa : mg "law" = some (.ref fa))
    (heW0 : PySem.W.nsIn K mainGlobals "WidthError" = some (some (.ref CW)))
    (heW1 : PySem.W.subIn K (.ref CW) (.type "BaseException") = some true)
    (heW2 : PySem.W.hasDictIn K CW = true)
    (heW3 : PySem.W.typeIn K (.ref CW) = some (.type "type"))
    (heW4 : PySem.W.specialIn K (.builtin "object.__class__") "__get__" = some (some (.builtin "getset_descriptor.__get__")))
    (heW5 : PySem.W.takesIn K (.builtin "object.__class__") = some true)
    (heW6 : PySem.W.nsIn K mainGlobals "ValueError" = some none)
    (he0BadSpan : PySem.W.nsIn K mainGlobals "BadSpan" = some (some (.ref C_BadSpan)))
    (he1BadSpan : K.lookup C_BadSpan = some (excClassObj nmBadSpan qBadSpan C_BadSpan NBadSpan bsBadSpan [.ref CW, .type "ValueError", .type "Exception", .type "BaseException", .type "object"] true snBadSpan subBadSpan abBadSpan colBadSpan ddBadSpan m0BadSpan m1BadSpan m2BadSpan m3BadSpan m5BadSpan "ValueError.__new__"))
    (he2BadSpan : PySem.W.findIn K (.ref C_BadSpan) "__setattr__" = some (some (.builtin "object.__setattr__")))
    (he3BadSpan : PySem.W.findIn K (.ref C_BadSpan) "__getattribute__" = some (some (.builtin "BaseException.__getattribute__")))
    (he4BadSpan : PySem.W.findIn K (.ref C_BadSpan) "__getattr__" = some none)
    (he6BadSpan : PySem.W.keepIn K (.ref C_BadSpan) = true)
    (he7BadSpan : PySem.W.subIn K (.ref C_BadSpan) (.type "BaseException") = some true)
    (he8BadSpan : PySem.W.typeIn K (.ref C_BadSpan) = some (.type "type"))
    (he9BadSpan : PySem.W.hasDictIn K C_BadSpan = true)
    (heaBadSpan : PySem.W.findIn K (.ref C_BadSpan) "__class__" = some (some (.builtin "object.__class__")))
    (hebBadSpan : PySem.W.mroIn K C_BadSpan (.type "object") = some true)
    (hedBadSpan : PySem.W.subIn K (.ref C_BadSpan) (.type "ValueError") = some true)
    (heeBadSpan : PySem.W.subIn K (.ref C_BadSpan) (.ref CW) = some true)
    (hevBadSpanvalue : PySem.W.findIn K (.ref C_BadSpan) "value" = some none)
    (he0BadPlan : PySem.W.nsIn K mainGlobals "BadPlan" = some (some (.ref C_BadPlan)))
    (he1BadPlan : K.lookup C_BadPlan = some (excClassObj nmBadPlan qBadPlan C_BadPlan NBadPlan bsBadPlan [.ref CW, .type "ValueError", .type "Exception", .type "BaseException", .type "object"] true snBadPlan subBadPlan abBadPlan colBadPlan ddBadPlan m0BadPlan m1BadPlan m2BadPlan m3BadPlan m5BadPlan "ValueError.__new__"))
    (he2BadPlan : PySem.W.findIn K (.ref C_BadPlan) "__setattr__" = some (some (.builtin "object.__setattr__")))
    (he3BadPlan : PySem.W.findIn K (.ref C_BadPlan) "__getattribute__" = some (some (.builtin "BaseException.__getattribute__")))
    (he4BadPlan : PySem.W.findIn K (.ref C_BadPlan) "__getattr__" = some none)
    (he6BadPlan : PySem.W.keepIn K (.ref C_BadPlan) = true)
    (he7BadPlan : PySem.W.subIn K (.ref C_BadPlan) (.type "BaseException") = some true)
    (he8BadPlan : PySem.W.typeIn K (.ref C_BadPlan) = some (.type "type"))
    (he9BadPlan : PySem.W.hasDictIn K C_BadPlan = true)
    (heaBadPlan : PySem.W.findIn K (.ref C_BadPlan) "__class__" = some (some (.builtin "object.__class__")))
    (hebBadPlan : PySem.W.mroIn K C_BadPlan (.type "object") = some true)
    (hedBadPlan : PySem.W.subIn K (.ref C_BadPlan) (.type "ValueError") = some true)
    (heeBadPlan : PySem.W.subIn K (.ref C_BadPlan) (.ref CW) = some true)
    (hevBadPlanindex : PySem.W.findIn K (.ref C_BadPlan) "index" = some none)
    (haCWorld : PySem.W.nsIn K mainGlobals "World" = some (some (.ref C_World)))
    (hpgWorld : PySem.W.plainGet K C_World Str.empty = true)
    (hhdWorld : PySem.W.hasDictIn K C_World = true)
    (hpoWorld : PySem.W.plainOver K C_World = true)
    (hsaWorld : PySem.W.findIn K (.ref C_World) "__setattr__" = some (some (.builtin "object.__setattr__")))
    (hmkWorld : PySem.W.makesIn K C_World = true)
    (hkcWorld : PySem.W.keepIn K (.ref C_World) = true)
    (hx1World : PySem.W.findIn K (.ref C_World) "__class__" = some (some (.builtin "object.__class__")))
    (hx4World : PySem.W.mroIn K C_World (.type "object") = some true)
    (hnWorld_narrow : PySem.W.findIn K (.ref C_World) "narrow" = some none)
    (hnWorld_wide : PySem.W.findIn K (.ref C_World) "wide" = some none)
    (hnWorld_columns : PySem.W.findIn K (.ref C_World) "columns" = some none)
    (hnWorld_programs : PySem.W.findIn K (.ref C_World) "programs" = some none)
    (haCKind : PySem.W.nsIn K mainGlobals "Kind" = some (some (.ref C_Kind)))
    (hpgKind : PySem.W.plainGet K C_Kind Str.empty = true)
    (hhdKind : PySem.W.hasDictIn K C_Kind = true)
    (hpoKind : PySem.W.plainOver K C_Kind = true)
    (hsaKind : PySem.W.findIn K (.ref C_Kind) "__setattr__" = some (some (.builtin "object.__setattr__")))
    (hmkKind : PySem.W.makesIn K C_Kind = true)
    (hkcKind : PySem.W.keepIn K (.ref C_Kind) = true)
    (hx1Kind : PySem.W.findIn K (.ref C_Kind) "__class__" = some (some (.builtin "object.__class__")))
    (hx4Kind : PySem.W.mroIn K C_Kind (.type "object") = some true)
    (hnKind_low : PySem.W.findIn K (.ref C_Kind) "low" = some none)
    (hnKind_high : PySem.W.findIn K (.ref C_Kind) "high" = some none)
    (hnKind_size : PySem.W.findIn K (.ref C_Kind) "size" = some none)
    (haCSetup : PySem.W.nsIn K mainGlobals "Setup" = some (some (.ref C_Setup)))
    (hpgSetup : PySem.W.plainGet K C_Setup Str.empty = true)
    (hhdSetup : PySem.W.hasDictIn K C_Setup = true)
    (hpoSetup : PySem.W.plainOver K C_Setup = true)
    (hsaSetup : PySem.W.findIn K (.ref C_Setup) "__setattr__" = some (some (.builtin "object.__setattr__")))
    (hmkSetup : PySem.W.makesIn K C_Setup = true)
    (hkcSetup : PySem.W.keepIn K (.ref C_Setup) = true)
    (hx1Setup : PySem.W.findIn K (.ref C_Setup) "__class__" = some (some (.builtin "object.__class__")))
    (hx4Setup : PySem.W.mroIn K C_Setup (.type "object") = some true)
    (hnSetup_world : PySem.W.findIn K (.ref C_Setup) "world" = some none)
    (hnSetup_editions : PySem.W.findIn K (.ref C_Setup) "editions" = some none)
    (hnSetup_sides : PySem.W.findIn K (.ref C_Setup) "sides" = some none)
    (hnSetup_ups : PySem.W.findIn K (.ref C_Setup) "ups" = some none)
    (hnSetup_downs : PySem.W.findIn K (.ref C_Setup) "downs" = some none)
    (hnSetup_going : PySem.W.findIn K (.ref C_Setup) "going" = some none)
    (hnSetup_span : PySem.W.findIn K (.ref C_Setup) "span" = some none)
    (hnSetup_lasts : PySem.W.findIn K (.ref C_Setup) "lasts" = some none)
    (hgnMOST_LETTERS : PySem.W.nsIn K mainGlobals "MOST_LETTERS" = some (some (.int 8 n_MOST_LETTERS)))
    (hgnMOST_STEPS : PySem.W.nsIn K mainGlobals "MOST_STEPS" = some (some (.int 14 n_MOST_STEPS)))
    (hgnLEAST_NUMBERS : PySem.W.nsIn K mainGlobals "LEAST_NUMBERS" = some (some (.int 16 n_LEAST_NUMBERS)))
    (hgnLEAST_NARROW : PySem.W.nsIn K mainGlobals "LEAST_NARROW" = some (some (.int 16 n_LEAST_NARROW)))
    (hgnMOST_PACE : PySem.W.nsIn K mainGlobals "MOST_PACE" = some (some (.int 99 n_MOST_PACE)))
    (hgnMOST_IN_TWO_EVENTS : PySem.W.nsIn K mainGlobals "MOST_IN_TWO_EVENTS" = some (some (.int 2 n_MOST_IN_TWO_EVENTS)))
    (hu0SIDES : PySem.W.nsIn K mainGlobals "SIDES" = some (some (.ref a_SIDES)))
    (hu1SIDES : tupW K a_SIDES = some (["narrow", "wide"] : List Str))
    (hu0RULES : PySem.W.nsIn K mainGlobals "RULES" = some (some (.ref a_RULES)))
    (hu1RULES : tupW K a_RULES = some (["cut", "empty", "refuse"] : List Str))
    (hu0MANNERS : PySem.W.nsIn K mainGlobals "MANNERS" = some (some (.ref a_MANNERS)))
    (hu1MANNERS : tupW K a_MANNERS = some (["empty", "anew"] : List Str))
    (hu0FILLS : PySem.W.nsIn K mainGlobals "FILLS" = some (some (.ref a_FILLS)))
    (hu1FILLS : tupW K a_FILLS = some (["fill", "fill back"] : List Str))
    (hu0DEEDS : PySem.W.nsIn K mainGlobals "DEEDS" = some (some (.ref a_DEEDS)))
    (hu1DEEDS : tupW K a_DEEDS = some (["match", "order", "show"] : List Str))
    (hu0READ_SIDES : PySem.W.nsIn K mainGlobals "READ_SIDES" = some (some (.ref a_READ_SIDES)))
    (hu1READ_SIDES : tupW K a_READ_SIDES = some (["narrow", "wide", "either"] : List Str))
    (hu0HOWS : PySem.W.nsIn K mainGlobals "HOWS" = some (some (.ref a_HOWS)))
    (hu1HOWS : tupW K a_HOWS = some (["narrow", "wide", "both", "narrow first", "wide first"] : List Str))
    (hu0IN_TWO_EVENTS : PySem.W.nsIn K mainGlobals "IN_TWO_EVENTS" = some (some (.ref a_IN_TWO_EVENTS)))
    (hu1IN_TWO_EVENTS : tupW K a_IN_TWO_EVENTS = some (["narrow first", "wide first"] : List Str))
    (hv0STEP_FORMS : PySem.W.nsIn K mainGlobals "STEP_FORMS" = some (some (.ref a_STEP_FORMS)))
    (hv1STEP_FORMS : He.dicW K a_STEP_FORMS = some (He.keysIn w.params (t_STEP_FORMS.map (·.1))))
    (hv2STEP_FORMS : tabOk K a_STEP_FORMS t_STEP_FORMS = true)
    (hw0POSSIBLE : PySem.W.nsIn K mainGlobals "POSSIBLE" = some (some (.ref a_POSSIBLE)))
    (hw1POSSIBLE : He.dicW K a_POSSIBLE = some (He.keysIn w.params ["add", "drop", "up", "no up", "down", "no down", "fill", "fill back", "release", "withdraw", "grow", "purge"]))
    (hw2POSSIBLE0 : PySem.W.nsIn K a_POSSIBLE "add" = some (some (.ref f_can_add)))
    (hw2POSSIBLE1 : PySem.W.nsIn K a_POSSIBLE "drop" = some (some (.ref f_can_drop)))
    (hw2POSSIBLE2 : PySem.W.nsIn K a_POSSIBLE "up" = some (some (.ref f_can_mirror_up)))
    (hw2POSSIBLE3 : PySem.W.nsIn K a_POSSIBLE "no up" = some (some (.ref f_is_up)))
    (hw2POSSIBLE4 : PySem.W.nsIn K a_POSSIBLE "down" = some (some (.ref f_can_mirror_down)))
    (hw2POSSIBLE5 : PySem.W.nsIn K a_POSSIBLE "no down" = some (some (.ref f_is_down)))
    (hw2POSSIBLE6 : PySem.W.nsIn K a_POSSIBLE "fill" = some (some (.ref f_has_both)))
    (hw2POSSIBLE7 : PySem.W.nsIn K a_POSSIBLE "fill back" = some (some (.ref f_has_both)))
    (hw2POSSIBLE8 : PySem.W.nsIn K a_POSSIBLE "release" = some (some (.ref f_can_release)))
    (hw2POSSIBLE9 : PySem.W.nsIn K a_POSSIBLE "withdraw" = some (some (.ref f_can_withdraw)))
    (hw2POSSIBLE10 : PySem.W.nsIn K a_POSSIBLE "grow" = some (some (.ref f_can_grow)))
    (hw2POSSIBLE11 : PySem.W.nsIn K a_POSSIBLE "purge" = some (some (.ref f_can_purge)))
    (hw0CHANGES : PySem.W.nsIn K mainGlobals "CHANGES" = some (some (.ref a_CHANGES)))
    (hw1CHANGES : He.dicW K a_CHANGES = some (He.keysIn w.params ["add", "drop", "up", "no up", "down", "no down", "fill", "fill back", "release", "withdraw", "grow", "purge"]))
    (hw2CHANGES0 : PySem.W.nsIn K a_CHANGES "add" = some (some (.ref f_add)))
    (hw2CHANGES1 : PySem.W.nsIn K a_CHANGES "drop" = some (some (.ref f_drop)))
    (hw2CHANGES2 : PySem.W.nsIn K a_CHANGES "up" = some (some (.ref f_mirror_up)))
    (hw2CHANGES3 : PySem.W.nsIn K a_CHANGES "no up" = some (some (.ref f_end_up)))
    (hw2CHANGES4 : PySem.W.nsIn K a_CHANGES "down" = some (some (.ref f_mirror_down)))
    (hw2CHANGES5 : PySem.W.nsIn K a_CHANGES "no down" = some (some (.ref f_end_down)))
    (hw2CHANGES6 : PySem.W.nsIn K a_CHANGES "fill" = some (some (.ref f_go_on)))
    (hw2CHANGES7 : PySem.W.nsIn K a_CHANGES "fill back" = some (some (.ref f_go_on)))
    (hw2CHANGES8 : PySem.W.nsIn K a_CHANGES "release" = some (some (.ref f_go_on)))
    (hw2CHANGES9 : PySem.W.nsIn K a_CHANGES "withdraw" = some (some (.ref f_go_on)))
    (hw2CHANGES10 : PySem.W.nsIn K a_CHANGES "grow" = some (some (.ref f_grow)))
    (hw2CHANGES11 : PySem.W.nsIn K a_CHANGES "purge" = some (some (.ref f_purge)))
    (hzdict : PySem.W.nsIn K mainGlobals "dict" = some none)
    (hesBadSpan : PySem.W.subIn K (.ref C_BadSpan) (.ref C_BadSpan) = some true)
    (hesBadPlan : PySem.W.subIn K (.ref C_BadPlan) (.ref C_BadPlan) = some true)
    (haeditions_of : PySem.W.nsIn K mainGlobals "editions_of" = some (some (.ref feditions_of)))
    (hleditions_of : K.lookup feditions_of = some ⟨oceditions_of, odeditions_of, .func (PySem.W.fnOf "editions_of" "editions_of" (defArgs s_editions_of) (defBody s_editions_of) (defScope s_editions_of) .none kVeditions_of dceditions_of pmeditions_of aneditions_of cdeditions_of cteditions_of), sleditions_of⟩)
    (hceditions_of : PySem.W.codeIn K cdeditions_of "editions_of" = true)
    (hkeditions_of : PySem.W.keepIn K (.ref feditions_of) = true)
    (haother_side : PySem.W.nsIn K mainGlobals "other_side" = some (some (.ref fother_side)))
    (hlother_side : K.lookup fother_side = some ⟨ocother_side, odother_side, .func (PySem.W.fnOf "other_side" "other_side" (defArgs s_other_side) (defBody s_other_side) (defScope s_other_side) .none kVother_side dcother_side pmother_side another_side cdother_side ctother_side), slother_side⟩)
    (hcother_side : PySem.W.codeIn K cdother_side "other_side" = true)
    (hkother_side : PySem.W.keepIn K (.ref fother_side) = true)
    (haBadSpan___init__ : PySem.W.findIn K (.ref C_BadSpan) "__init__" = some (some (.ref fBadSpan___init__)))
    (hiBadSpan___init__ : PySem.W.isFn K (.ref fBadSpan___init__) = true)
    (hlBadSpan___init__ : K.lookup fBadSpan___init__ = some ⟨ocBadSpan___init__, odBadSpan___init__, .func (PySem.W.fnOf "__init__" "BadSpan.__init__" (defArgs s_BadSpan___init__) (defBody s_BadSpan___init__) (defScope s_BadSpan___init__) .none kVBadSpan___init__ dcBadSpan___init__ pmBadSpan___init__ anBadSpan___init__ cdBadSpan___init__ ctBadSpan___init__), slBadSpan___init__⟩)
    (hcBadSpan___init__ : PySem.W.codeIn K cdBadSpan___init__ "BadSpan.__init__" = true)
    (hkBadSpan___init__ : PySem.W.keepIn K (.ref fBadSpan___init__) = true)
    (haBadPlan___init__ : PySem.W.findIn K (.ref C_BadPlan) "__init__" = some (some (.ref fBadPlan___init__)))
    (hiBadPlan___init__ : PySem.W.isFn K (.ref fBadPlan___init__) = true)
    (hlBadPlan___init__ : K.lookup fBadPlan___init__ = some ⟨ocBadPlan___init__, odBadPlan___init__, .func (PySem.W.fnOf "__init__" "BadPlan.__init__" (defArgs s_BadPlan___init__) (defBody s_BadPlan___init__) (defScope s_BadPlan___init__) .none kVBadPlan___init__ dcBadPlan___init__ pmBadPlan___init__ anBadPlan___init__ cdBadPlan___init__ ctBadPlan___init__), slBadPlan___init__⟩)
    (hcBadPlan___init__ : PySem.W.codeIn K cdBadPlan___init__ "BadPlan.__init__" = true)
    (hkBadPlan___init__ : PySem.W.keepIn K (.ref fBadPlan___init__) = true)
    (hais_integer : PySem.W.nsIn K mainGlobals "is_integer" = some (some (.ref fis_integer)))
    (hlis_integer : K.lookup fis_integer = some ⟨ocis_integer, odis_integer, .func (PySem.W.fnOf "is_integer" "is_integer" (defArgs s_is_integer) (defBody s_is_integer) (defScope s_is_integer) .none kVis_integer dcis_integer pmis_integer anis_integer cdis_integer ctis_integer), slis_integer⟩)
    (hcis_integer : PySem.W.codeIn K cdis_integer "is_integer" = true)
    (hkis_integer : PySem.W.keepIn K (.ref fis_integer) = true)
    (hais_between : PySem.W.nsIn K mainGlobals "is_between" = some (some (.ref fis_between)))
    (hlis_between : K.lookup fis_between = some ⟨ocis_between, odis_between, .func (PySem.W.fnOf "is_between" "is_between" (defArgs s_is_between) (defBody s_is_between) (defScope s_is_between) .none kVis_between dcis_between pmis_between anis_between cdis_between ctis_between), slis_between⟩)
    (hcis_between : PySem.W.codeIn K cdis_between "is_between" = true)
    (hkis_between : PySem.W.keepIn K (.ref fis_between) = true)
    (halesser : PySem.W.nsIn K mainGlobals "lesser" = some (some (.ref flesser)))
    (hllesser : K.lookup flesser = some ⟨oclesser, odlesser, .func (PySem.W.fnOf "lesser" "lesser" (defArgs s_lesser) (defBody s_lesser) (defScope s_lesser) .none kVlesser dclesser pmlesser anlesser cdlesser ctlesser), sllesser⟩)
    (hclesser : PySem.W.codeIn K cdlesser "lesser" = true)
    (hklesser : PySem.W.keepIn K (.ref flesser) = true)
    (hagreater : PySem.W.nsIn K mainGlobals "greater" = some (some (.ref fgreater)))
    (hlgreater : K.lookup fgreater = some ⟨ocgreater, odgreater, .func (PySem.W.fnOf "greater" "greater" (defArgs s_greater) (defBody s_greater) (defScope s_greater) .none kVgreater dcgreater pmgreater angreater cdgreater ctgreater), slgreater⟩)
    (hcgreater : PySem.W.codeIn K cdgreater "greater" = true)
    (hkgreater : PySem.W.keepIn K (.ref fgreater) = true)
    (hais_name : PySem.W.nsIn K mainGlobals "is_name" = some (some (.ref fis_name)))
    (hlis_name : K.lookup fis_name = some ⟨ocis_name, odis_name, .func (PySem.W.fnOf "is_name" "is_name" (defArgs s_is_name) (defBody s_is_name) (defScope s_is_name) .none kVis_name dcis_name pmis_name anis_name cdis_name ctis_name), slis_name⟩)
    (hcis_name : PySem.W.codeIn K cdis_name "is_name" = true)
    (hkis_name : PySem.W.keepIn K (.ref fis_name) = true)
    (hais_tuple_of : PySem.W.nsIn K mainGlobals "is_tuple_of" = some (some (.ref fis_tuple_of)))
    (hlis_tuple_of : K.lookup fis_tuple_of = some ⟨ocis_tuple_of, odis_tuple_of, .func (PySem.W.fnOf "is_tuple_of" "is_tuple_of" (defArgs s_is_tuple_of) (defBody s_is_tuple_of) (defScope s_is_tuple_of) .none kVis_tuple_of dcis_tuple_of pmis_tuple_of anis_tuple_of cdis_tuple_of ctis_tuple_of), slis_tuple_of⟩)
    (hcis_tuple_of : PySem.W.codeIn K cdis_tuple_of "is_tuple_of" = true)
    (hkis_tuple_of : PySem.W.keepIn K (.ref fis_tuple_of) = true)
    (hais_ascending : PySem.W.nsIn K mainGlobals "is_ascending" = some (some (.ref fis_ascending)))
    (hlis_ascending : K.lookup fis_ascending = some ⟨ocis_ascending, odis_ascending, .func (PySem.W.fnOf "is_ascending" "is_ascending" (defArgs s_is_ascending) (defBody s_is_ascending) (defScope s_is_ascending) .none kVis_ascending dcis_ascending pmis_ascending anis_ascending cdis_ascending ctis_ascending), slis_ascending⟩)
    (hcis_ascending : PySem.W.codeIn K cdis_ascending "is_ascending" = true)
    (hkis_ascending : PySem.W.keepIn K (.ref fis_ascending) = true)
    (hastep_form : PySem.W.nsIn K mainGlobals "step_form" = some (some (.ref fstep_form)))
    (hlstep_form : K.lookup fstep_form = some ⟨ocstep_form, odstep_form, .func (PySem.W.fnOf "step_form" "step_form" (defArgs s_step_form) (defBody s_step_form) (defScope s_step_form) .none kVstep_form dcstep_form pmstep_form anstep_form cdstep_form ctstep_form), slstep_form⟩)
    (hcstep_form : PySem.W.codeIn K cdstep_form "step_form" = true)
    (hkstep_form : PySem.W.keepIn K (.ref fstep_form) = true)
    (hais_plain_part : PySem.W.nsIn K mainGlobals "is_plain_part" = some (some (.ref fis_plain_part)))
    (hlis_plain_part : K.lookup fis_plain_part = some ⟨ocis_plain_part, odis_plain_part, .func (PySem.W.fnOf "is_plain_part" "is_plain_part" (defArgs s_is_plain_part) (defBody s_is_plain_part) (defScope s_is_plain_part) .none kVis_plain_part dcis_plain_part pmis_plain_part anis_plain_part cdis_plain_part ctis_plain_part), slis_plain_part⟩)
    (hcis_plain_part : PySem.W.codeIn K cdis_plain_part "is_plain_part" = true)
    (hkis_plain_part : PySem.W.keepIn K (.ref fis_plain_part) = true)
    (hais_count : PySem.W.nsIn K mainGlobals "is_count" = some (some (.ref fis_count)))
    (hlis_count : K.lookup fis_count = some ⟨ocis_count, odis_count, .func (PySem.W.fnOf "is_count" "is_count" (defArgs s_is_count) (defBody s_is_count) (defScope s_is_count) .none kVis_count dcis_count pmis_count anis_count cdis_count ctis_count), slis_count⟩)
    (hcis_count : PySem.W.codeIn K cdis_count "is_count" = true)
    (hkis_count : PySem.W.keepIn K (.ref fis_count) = true)
    (ha_first_word : PySem.W.nsIn K mainGlobals "_first_word" = some (some (.ref f_first_word)))
    (hl_first_word : K.lookup f_first_word = some ⟨oc_first_word, od_first_word, .func (PySem.W.fnOf "_first_word" "_first_word" (defArgs s__first_word) (defBody s__first_word) (defScope s__first_word) .none kV_first_word dc_first_word pm_first_word an_first_word cd_first_word ct_first_word), sl_first_word⟩)
    (hc_first_word : PySem.W.codeIn K cd_first_word "_first_word" = true)
    (hk_first_word : PySem.W.keepIn K (.ref f_first_word) = true)
    (hais_span : PySem.W.nsIn K mainGlobals "is_span" = some (some (.ref fis_span)))
    (hlis_span : K.lookup fis_span = some ⟨ocis_span, odis_span, .func (PySem.W.fnOf "is_span" "is_span" (defArgs s_is_span) (defBody s_is_span) (defScope s_is_span) .none kVis_span dcis_span pmis_span anis_span cdis_span ctis_span), slis_span⟩)
    (hcis_span : PySem.W.codeIn K cdis_span "is_span" = true)
    (hkis_span : PySem.W.keepIn K (.ref fis_span) = true)
    (hais_fit : PySem.W.nsIn K mainGlobals "is_fit" = some (some (.ref fis_fit)))
    (hlis_fit : K.lookup fis_fit = some ⟨ocis_fit, odis_fit, .func (PySem.W.fnOf "is_fit" "is_fit" (defArgs s_is_fit) (defBody s_is_fit) (defScope s_is_fit) .none kVis_fit dcis_fit pmis_fit anis_fit cdis_fit ctis_fit), slis_fit⟩)
    (hcis_fit : PySem.W.codeIn K cdis_fit "is_fit" = true)
    (hkis_fit : PySem.W.keepIn K (.ref fis_fit) = true)
    (ha_are_none_or_many : PySem.W.nsIn K mainGlobals "_are_none_or_many" = some (some (.ref f_are_none_or_many)))
    (hl_are_none_or_many : K.lookup f_are_none_or_many = some ⟨oc_are_none_or_many, od_are_none_or_many, .func (PySem.W.fnOf "_are_none_or_many" "_are_none_or_many" (defArgs s__are_none_or_many) (defBody s__are_none_or_many) (defScope s__are_none_or_many) .none kV_are_none_or_many dc_are_none_or_many pm_are_none_or_many an_are_none_or_many cd_are_none_or_many ct_are_none_or_many), sl_are_none_or_many⟩)
    (hc_are_none_or_many : PySem.W.codeIn K cd_are_none_or_many "_are_none_or_many" = true)
    (hk_are_none_or_many : PySem.W.keepIn K (.ref f_are_none_or_many) = true)
    (haSetup___init__ : PySem.W.findIn K (.ref C_Setup) "__init__" = some (some (.ref fSetup___init__)))
    (hiSetup___init__ : PySem.W.isFn K (.ref fSetup___init__) = true)
    (hlSetup___init__ : K.lookup fSetup___init__ = some ⟨ocSetup___init__, odSetup___init__, .func (PySem.W.fnOf "__init__" "Setup.__init__" (defArgs s_Setup___init__) (defBody s_Setup___init__) (defScope s_Setup___init__) .none kVSetup___init__ dcSetup___init__ pmSetup___init__ anSetup___init__ cdSetup___init__ ctSetup___init__), slSetup___init__⟩)
    (hcSetup___init__ : PySem.W.codeIn K cdSetup___init__ "Setup.__init__" = true)
    (hkSetup___init__ : PySem.W.keepIn K (.ref fSetup___init__) = true)
    (haSetup_behind_begin : PySem.W.findIn K (.ref C_Setup) "behind_begin" = some (some (.ref fSetup_behind_begin)))
    (hiSetup_behind_begin : PySem.W.isFn K (.ref fSetup_behind_begin) = true)
    (hlSetup_behind_begin : K.lookup fSetup_behind_begin = some ⟨ocSetup_behind_begin, odSetup_behind_begin, .func (PySem.W.fnOf "behind_begin" "Setup.behind_begin" (defArgs s_Setup_behind_begin) (defBody s_Setup_behind_begin) (defScope s_Setup_behind_begin) .none kVSetup_behind_begin dcSetup_behind_begin pmSetup_behind_begin anSetup_behind_begin cdSetup_behind_begin ctSetup_behind_begin), slSetup_behind_begin⟩)
    (hcSetup_behind_begin : PySem.W.codeIn K cdSetup_behind_begin "Setup.behind_begin" = true)
    (hkSetup_behind_begin : PySem.W.keepIn K (.ref fSetup_behind_begin) = true)
    (haSetup_behind_end : PySem.W.findIn K (.ref C_Setup) "behind_end" = some (some (.ref fSetup_behind_end)))
    (hiSetup_behind_end : PySem.W.isFn K (.ref fSetup_behind_end) = true)
    (hlSetup_behind_end : K.lookup fSetup_behind_end = some ⟨ocSetup_behind_end, odSetup_behind_end, .func (PySem.W.fnOf "behind_end" "Setup.behind_end" (defArgs s_Setup_behind_end) (defBody s_Setup_behind_end) (defScope s_Setup_behind_end) .none kVSetup_behind_end dcSetup_behind_end pmSetup_behind_end anSetup_behind_end cdSetup_behind_end ctSetup_behind_end), slSetup_behind_end⟩)
    (hcSetup_behind_end : PySem.W.codeIn K cdSetup_behind_end "Setup.behind_end" = true)
    (hkSetup_behind_end : PySem.W.keepIn K (.ref fSetup_behind_end) = true)
    (haSetup_what_holds : PySem.W.findIn K (.ref C_Setup) "what_holds" = some (some (.ref fSetup_what_holds)))
    (hiSetup_what_holds : PySem.W.isFn K (.ref fSetup_what_holds) = true)
    (hlSetup_what_holds : K.lookup fSetup_what_holds = some ⟨ocSetup_what_holds, odSetup_what_holds, .func (PySem.W.fnOf "what_holds" "Setup.what_holds" (defArgs s_Setup_what_holds) (defBody s_Setup_what_holds) (defScope s_Setup_what_holds) .none kVSetup_what_holds dcSetup_what_holds pmSetup_what_holds anSetup_what_holds cdSetup_what_holds ctSetup_what_holds), slSetup_what_holds⟩)
    (hcSetup_what_holds : PySem.W.codeIn K cdSetup_what_holds "Setup.what_holds" = true)
    (hkSetup_what_holds : PySem.W.keepIn K (.ref fSetup_what_holds) = true)
    (ha_twin : PySem.W.nsIn K mainGlobals "_twin" = some (some (.ref f_twin)))
    (hl_twin : K.lookup f_twin = some ⟨oc_twin, od_twin, .func (PySem.W.fnOf "_twin" "_twin" (defArgs s__twin) (defBody s__twin) (defScope s__twin) .none kV_twin dc_twin pm_twin an_twin cd_twin ct_twin), sl_twin⟩)
    (hc_twin : PySem.W.codeIn K cd_twin "_twin" = true)
    (hk_twin : PySem.W.keepIn K (.ref f_twin) = true)
    (ha_running : PySem.W.nsIn K mainGlobals "_running" = some (some (.ref f_running)))
    (hl_running : K.lookup f_running = some ⟨oc_running, od_running, .func (PySem.W.fnOf "_running" "_running" (defArgs s__running) (defBody s__running) (defScope s__running) .none kV_running dc_running pm_running an_running cd_running ct_running), sl_running⟩)
    (hc_running : PySem.W.codeIn K cd_running "_running" = true)
    (hk_running : PySem.W.keepIn K (.ref f_running) = true)
    (ha_can_add : PySem.W.nsIn K mainGlobals "_can_add" = some (some (.ref f_can_add)))
    (hl_can_add : K.lookup f_can_add = some ⟨oc_can_add, od_can_add, .func (PySem.W.fnOf "_can_add" "_can_add" (defArgs s__can_add) (defBody s__can_add) (defScope s__can_add) .none kV_can_add dc_can_add pm_can_add an_can_add cd_can_add ct_can_add), sl_can_add⟩)
    (hc_can_add : PySem.W.codeIn K cd_can_add "_can_add" = true)
    (hk_can_add : PySem.W.keepIn K (.ref f_can_add) = true)
    (ha_add : PySem.W.nsIn K mainGlobals "_add" = some (some (.ref f_add)))
    (hl_add : K.lookup f_add = some ⟨oc_add, od_add, .func (PySem.W.fnOf "_add" "_add" (defArgs s__add) (defBody s__add) (defScope s__add) .none kV_add dc_add pm_add an_add cd_add ct_add), sl_add⟩)
    (hc_add : PySem.W.codeIn K cd_add "_add" = true)
    (hk_add : PySem.W.keepIn K (.ref f_add) = true)
    (ha_can_drop : PySem.W.nsIn K mainGlobals "_can_drop" = some (some (.ref f_can_drop)))
    (hl_can_drop : K.lookup f_can_drop = some ⟨oc_can_drop, od_can_drop, .func (PySem.W.fnOf "_can_drop" "_can_drop" (defArgs s__can_drop) (defBody s__can_drop) (defScope s__can_drop) .none kV_can_drop dc_can_drop pm_can_drop an_can_drop cd_can_drop ct_can_drop), sl_can_drop⟩)
    (hc_can_drop : PySem.W.codeIn K cd_can_drop "_can_drop" = true)
    (hk_can_drop : PySem.W.keepIn K (.ref f_can_drop) = true)
    (ha_drop : PySem.W.nsIn K mainGlobals "_drop" = some (some (.ref f_drop)))
    (hl_drop : K.lookup f_drop = some ⟨oc_drop, od_drop, .func (PySem.W.fnOf "_drop" "_drop" (defArgs s__drop) (defBody s__drop) (defScope s__drop) .none kV_drop dc_drop pm_drop an_drop cd_drop ct_drop), sl_drop⟩)
    (hc_drop : PySem.W.codeIn K cd_drop "_drop" = true)
    (hk_drop : PySem.W.keepIn K (.ref f_drop) = true)
    (ha_can_mirror_up : PySem.W.nsIn K mainGlobals "_can_mirror_up" = some (some (.ref f_can_mirror_up)))
    (hl_can_mirror_up : K.lookup f_can_mirror_up = some ⟨oc_can_mirror_up, od_can_mirror_up, .func (PySem.W.fnOf "_can_mirror_up" "_can_mirror_up" (defArgs s__can_mirror_up) (defBody s__can_mirror_up) (defScope s__can_mirror_up) .none kV_can_mirror_up dc_can_mirror_up pm_can_mirror_up an_can_mirror_up cd_can_mirror_up ct_can_mirror_up), sl_can_mirror_up⟩)
    (hc_can_mirror_up : PySem.W.codeIn K cd_can_mirror_up "_can_mirror_up" = true)
    (hk_can_mirror_up : PySem.W.keepIn K (.ref f_can_mirror_up) = true)
    (ha_mirror_up : PySem.W.nsIn K mainGlobals "_mirror_up" = some (some (.ref f_mirror_up)))
    (hl_mirror_up : K.lookup f_mirror_up = some ⟨oc_mirror_up, od_mirror_up, .func (PySem.W.fnOf "_mirror_up" "_mirror_up" (defArgs s__mirror_up) (defBody s__mirror_up) (defScope s__mirror_up) .none kV_mirror_up dc_mirror_up pm_mirror_up an_mirror_up cd_mirror_up ct_mirror_up), sl_mirror_up⟩)
    (hc_mirror_up : PySem.W.codeIn K cd_mirror_up "_mirror_up" = true)
    (hk_mirror_up : PySem.W.keepIn K (.ref f_mirror_up) = true)
    (ha_is_up : PySem.W.nsIn K mainGlobals "_is_up" = some (some (.ref f_is_up)))
    (hl_is_up : K.lookup f_is_up = some ⟨oc_is_up, od_is_up, .func (PySem.W.fnOf "_is_up" "_is_up" (defArgs s__is_up) (defBody s__is_up) (defScope s__is_up) .none kV_is_up dc_is_up pm_is_up an_is_up cd_is_up ct_is_up), sl_is_up⟩)
    (hc_is_up : PySem.W.codeIn K cd_is_up "_is_up" = true)
    (hk_is_up : PySem.W.keepIn K (.ref f_is_up) = true)
    (ha_end_up : PySem.W.nsIn K mainGlobals "_end_up" = some (some (.ref f_end_up)))
    (hl_end_up : K.lookup f_end_up = some ⟨oc_end_up, od_end_up, .func (PySem.W.fnOf "_end_up" "_end_up" (defArgs s__end_up) (defBody s__end_up) (defScope s__end_up) .none kV_end_up dc_end_up pm_end_up an_end_up cd_end_up ct_end_up), sl_end_up⟩)
    (hc_end_up : PySem.W.codeIn K cd_end_up "_end_up" = true)
    (hk_end_up : PySem.W.keepIn K (.ref f_end_up) = true)
    (ha_can_mirror_down : PySem.W.nsIn K mainGlobals "_can_mirror_down" = some (some (.ref f_can_mirror_down)))
    (hl_can_mirror_down : K.lookup f_can_mirror_down = some ⟨oc_can_mirror_down, od_can_mirror_down, .func (PySem.W.fnOf "_can_mirror_down" "_can_mirror_down" (defArgs s__can_mirror_down) (defBody s__can_mirror_down) (defScope s__can_mirror_down) .none kV_can_mirror_down dc_can_mirror_down pm_can_mirror_down an_can_mirror_down cd_can_mirror_down ct_can_mirror_down), sl_can_mirror_down⟩)
    (hc_can_mirror_down : PySem.W.codeIn K cd_can_mirror_down "_can_mirror_down" = true)
    (hk_can_mirror_down : PySem.W.keepIn K (.ref f_can_mirror_down) = true)
    (ha_mirror_down : PySem.W.nsIn K mainGlobals "_mirror_down" = some (some (.ref f_mirror_down)))
    (hl_mirror_down : K.lookup f_mirror_down = some ⟨oc_mirror_down, od_mirror_down, .func (PySem.W.fnOf "_mirror_down" "_mirror_down" (defArgs s__mirror_down) (defBody s__mirror_down) (defScope s__mirror_down) .none kV_mirror_down dc_mirror_down pm_mirror_down an_mirror_down cd_mirror_down ct_mirror_down), sl_mirror_down⟩)
    (hc_mirror_down : PySem.W.codeIn K cd_mirror_down "_mirror_down" = true)
    (hk_mirror_down : PySem.W.keepIn K (.ref f_mirror_down) = true)
    (ha_is_down : PySem.W.nsIn K mainGlobals "_is_down" = some (some (.ref f_is_down)))
    (hl_is_down : K.lookup f_is_down = some ⟨oc_is_down, od_is_down, .func (PySem.W.fnOf "_is_down" "_is_down" (defArgs s__is_down) (defBody s__is_down) (defScope s__is_down) .none kV_is_down dc_is_down pm_is_down an_is_down cd_is_down ct_is_down), sl_is_down⟩)
    (hc_is_down : PySem.W.codeIn K cd_is_down "_is_down" = true)
    (hk_is_down : PySem.W.keepIn K (.ref f_is_down) = true)
    (ha_end_down : PySem.W.nsIn K mainGlobals "_end_down" = some (some (.ref f_end_down)))
    (hl_end_down : K.lookup f_end_down = some ⟨oc_end_down, od_end_down, .func (PySem.W.fnOf "_end_down" "_end_down" (defArgs s__end_down) (defBody s__end_down) (defScope s__end_down) .none kV_end_down dc_end_down pm_end_down an_end_down cd_end_down ct_end_down), sl_end_down⟩)
    (hc_end_down : PySem.W.codeIn K cd_end_down "_end_down" = true)
    (hk_end_down : PySem.W.keepIn K (.ref f_end_down) = true)
    (ha_has_both : PySem.W.nsIn K mainGlobals "_has_both" = some (some (.ref f_has_both)))
    (hl_has_both : K.lookup f_has_both = some ⟨oc_has_both, od_has_both, .func (PySem.W.fnOf "_has_both" "_has_both" (defArgs s__has_both) (defBody s__has_both) (defScope s__has_both) .none kV_has_both dc_has_both pm_has_both an_has_both cd_has_both ct_has_both), sl_has_both⟩)
    (hc_has_both : PySem.W.codeIn K cd_has_both "_has_both" = true)
    (hk_has_both : PySem.W.keepIn K (.ref f_has_both) = true)
    (ha_can_release : PySem.W.nsIn K mainGlobals "_can_release" = some (some (.ref f_can_release)))
    (hl_can_release : K.lookup f_can_release = some ⟨oc_can_release, od_can_release, .func (PySem.W.fnOf "_can_release" "_can_release" (defArgs s__can_release) (defBody s__can_release) (defScope s__can_release) .none kV_can_release dc_can_release pm_can_release an_can_release cd_can_release ct_can_release), sl_can_release⟩)
    (hc_can_release : PySem.W.codeIn K cd_can_release "_can_release" = true)
    (hk_can_release : PySem.W.keepIn K (.ref f_can_release) = true)
    (ha_can_withdraw : PySem.W.nsIn K mainGlobals "_can_withdraw" = some (some (.ref f_can_withdraw)))
    (hl_can_withdraw : K.lookup f_can_withdraw = some ⟨oc_can_withdraw, od_can_withdraw, .func (PySem.W.fnOf "_can_withdraw" "_can_withdraw" (defArgs s__can_withdraw) (defBody s__can_withdraw) (defScope s__can_withdraw) .none kV_can_withdraw dc_can_withdraw pm_can_withdraw an_can_withdraw cd_can_withdraw ct_can_withdraw), sl_can_withdraw⟩)
    (hc_can_withdraw : PySem.W.codeIn K cd_can_withdraw "_can_withdraw" = true)
    (hk_can_withdraw : PySem.W.keepIn K (.ref f_can_withdraw) = true)
    (ha_go_on : PySem.W.nsIn K mainGlobals "_go_on" = some (some (.ref f_go_on)))
    (hl_go_on : K.lookup f_go_on = some ⟨oc_go_on, od_go_on, .func (PySem.W.fnOf "_go_on" "_go_on" (defArgs s__go_on) (defBody s__go_on) (defScope s__go_on) .none kV_go_on dc_go_on pm_go_on an_go_on cd_go_on ct_go_on), sl_go_on⟩)
    (hc_go_on : PySem.W.codeIn K cd_go_on "_go_on" = true)
    (hk_go_on : PySem.W.keepIn K (.ref f_go_on) = true)
    (ha_can_grow : PySem.W.nsIn K mainGlobals "_can_grow" = some (some (.ref f_can_grow)))
    (hl_can_grow : K.lookup f_can_grow = some ⟨oc_can_grow, od_can_grow, .func (PySem.W.fnOf "_can_grow" "_can_grow" (defArgs s__can_grow) (defBody s__can_grow) (defScope s__can_grow) .none kV_can_grow dc_can_grow pm_can_grow an_can_grow cd_can_grow ct_can_grow), sl_can_grow⟩)
    (hc_can_grow : PySem.W.codeIn K cd_can_grow "_can_grow" = true)
    (hk_can_grow : PySem.W.keepIn K (.ref f_can_grow) = true)
    (ha_grow : PySem.W.nsIn K mainGlobals "_grow" = some (some (.ref f_grow)))
    (hl_grow : K.lookup f_grow = some ⟨oc_grow, od_grow, .func (PySem.W.fnOf "_grow" "_grow" (defArgs s__grow) (defBody s__grow) (defScope s__grow) .none kV_grow dc_grow pm_grow an_grow cd_grow ct_grow), sl_grow⟩)
    (hc_grow : PySem.W.codeIn K cd_grow "_grow" = true)
    (hk_grow : PySem.W.keepIn K (.ref f_grow) = true)
    (ha_can_purge : PySem.W.nsIn K mainGlobals "_can_purge" = some (some (.ref f_can_purge)))
    (hl_can_purge : K.lookup f_can_purge = some ⟨oc_can_purge, od_can_purge, .func (PySem.W.fnOf "_can_purge" "_can_purge" (defArgs s__can_purge) (defBody s__can_purge) (defScope s__can_purge) .none kV_can_purge dc_can_purge pm_can_purge an_can_purge cd_can_purge ct_can_purge), sl_can_purge⟩)
    (hc_can_purge : PySem.W.codeIn K cd_can_purge "_can_purge" = true)
    (hk_can_purge : PySem.W.keepIn K (.ref f_can_purge) = true)
    (ha_purge : PySem.W.nsIn K mainGlobals "_purge" = some (some (.ref f_purge)))
    (hl_purge : K.lookup f_purge = some ⟨oc_purge, od_purge, .func (PySem.W.fnOf "_purge" "_purge" (defArgs s__purge) (defBody s__purge) (defScope s__purge) .none kV_purge dc_purge pm_purge an_purge cd_purge ct_purge), sl_purge⟩)
    (hc_purge : PySem.W.codeIn K cd_purge "_purge" = true)
    (hk_purge : PySem.W.keepIn K (.ref f_purge) = true)
    (hais_step : PySem.W.nsIn K mainGlobals "is_step" = some (some (.ref fis_step)))
    (hlis_step : K.lookup fis_step = some ⟨ocis_step, odis_step, .func (PySem.W.fnOf "is_step" "is_step" (defArgs s_is_step) (defBody s_is_step) (defScope s_is_step) .none kVis_step dcis_step pmis_step anis_step cdis_step ctis_step), slis_step⟩)
    (hcis_step : PySem.W.codeIn K cdis_step "is_step" = true)
    (hkis_step : PySem.W.keepIn K (.ref fis_step) = true)
    (hamoments : PySem.W.nsIn K mainGlobals "moments" = some (some (.ref fmoments)))
    (hlmoments : K.lookup fmoments = some ⟨ocmoments, odmoments, .func (PySem.W.fnOf "moments" "moments" (defArgs s_moments) (defBody s_moments) (defScope s_moments) .none kVmoments dcmoments pmmoments anmoments cdmoments ctmoments), slmoments⟩)
    (hcmoments : PySem.W.codeIn K cdmoments "moments" = true)
    (hkmoments : PySem.W.keepIn K (.ref fmoments) = true)
    (haare_parts : PySem.W.nsIn K mainGlobals "are_parts" = some (some (.ref fare_parts)))
    (hlare_parts : K.lookup fare_parts = some ⟨ocare_parts, odare_parts, .func (PySem.W.fnOf "are_parts" "are_parts" (defArgs s_are_parts) (defBody s_are_parts) (defScope s_are_parts) .none kVare_parts dcare_parts pmare_parts anare_parts cdare_parts ctare_parts), slare_parts⟩)
    (hcare_parts : PySem.W.codeIn K cdare_parts "are_parts" = true)
    (hkare_parts : PySem.W.keepIn K (.ref fare_parts) = true)
    (ha_is_part : PySem.W.nsIn K mainGlobals "_is_part" = some (some (.ref f_is_part)))
    (hl_is_part : K.lookup f_is_part = some ⟨oc_is_part, od_is_part, .func (PySem.W.fnOf "_is_part" "_is_part" (defArgs s__is_part) (defBody s__is_part) (defScope s__is_part) .none kV_is_part dc_is_part pm_is_part an_is_part cd_is_part ct_is_part), sl_is_part⟩)
    (hc_is_part : PySem.W.codeIn K cd_is_part "_is_part" = true)
    (hk_is_part : PySem.W.keepIn K (.ref f_is_part) = true)
    (haKind___init__ : PySem.W.findIn K (.ref C_Kind) "__init__" = some (some (.ref fKind___init__)))
    (hiKind___init__ : PySem.W.isFn K (.ref fKind___init__) = true)
    (hlKind___init__ : K.lookup fKind___init__ = some ⟨ocKind___init__, odKind___init__, .func (PySem.W.fnOf "__init__" "Kind.__init__" (defArgs s_Kind___init__) (defBody s_Kind___init__) (defScope s_Kind___init__) .none kVKind___init__ dcKind___init__ pmKind___init__ anKind___init__ cdKind___init__ ctKind___init__), slKind___init__⟩)
    (hcKind___init__ : PySem.W.codeIn K cdKind___init__ "Kind.__init__" = true)
    (hkKind___init__ : PySem.W.keepIn K (.ref fKind___init__) = true)
    (haKind___contains__ : PySem.W.findIn K (.ref C_Kind) "__contains__" = some (some (.ref fKind___contains__)))
    (hiKind___contains__ : PySem.W.isFn K (.ref fKind___contains__) = true)
    (hlKind___contains__ : K.lookup fKind___contains__ = some ⟨ocKind___contains__, odKind___contains__, .func (PySem.W.fnOf "__contains__" "Kind.__contains__" (defArgs s_Kind___contains__) (defBody s_Kind___contains__) (defScope s_Kind___contains__) .none kVKind___contains__ dcKind___contains__ pmKind___contains__ anKind___contains__ cdKind___contains__ ctKind___contains__), slKind___contains__⟩)
    (hcKind___contains__ : PySem.W.codeIn K cdKind___contains__ "Kind.__contains__" = true)
    (hkKind___contains__ : PySem.W.keepIn K (.ref fKind___contains__) = true)
    (haKind___eq__ : PySem.W.findIn K (.ref C_Kind) "__eq__" = some (some (.ref fKind___eq__)))
    (hiKind___eq__ : PySem.W.isFn K (.ref fKind___eq__) = true)
    (hlKind___eq__ : K.lookup fKind___eq__ = some ⟨ocKind___eq__, odKind___eq__, .func (PySem.W.fnOf "__eq__" "Kind.__eq__" (defArgs s_Kind___eq__) (defBody s_Kind___eq__) (defScope s_Kind___eq__) .none kVKind___eq__ dcKind___eq__ pmKind___eq__ anKind___eq__ cdKind___eq__ ctKind___eq__), slKind___eq__⟩)
    (hcKind___eq__ : PySem.W.codeIn K cdKind___eq__ "Kind.__eq__" = true)
    (hkKind___eq__ : PySem.W.keepIn K (.ref fKind___eq__) = true)
    (haKind___le__ : PySem.W.findIn K (.ref C_Kind) "__le__" = some (some (.ref fKind___le__)))
    (hiKind___le__ : PySem.W.isFn K (.ref fKind___le__) = true)
    (hlKind___le__ : K.lookup fKind___le__ = some ⟨ocKind___le__, odKind___le__, .func (PySem.W.fnOf "__le__" "Kind.__le__" (defArgs s_Kind___le__) (defBody s_Kind___le__) (defScope s_Kind___le__) .none kVKind___le__ dcKind___le__ pmKind___le__ anKind___le__ cdKind___le__ ctKind___le__), slKind___le__⟩)
    (hcKind___le__ : PySem.W.codeIn K cdKind___le__ "Kind.__le__" = true)
    (hkKind___le__ : PySem.W.keepIn K (.ref fKind___le__) = true)
    (haKind___lt__ : PySem.W.findIn K (.ref C_Kind) "__lt__" = some (some (.ref fKind___lt__)))
    (hiKind___lt__ : PySem.W.isFn K (.ref fKind___lt__) = true)
    (hlKind___lt__ : K.lookup fKind___lt__ = some ⟨ocKind___lt__, odKind___lt__, .func (PySem.W.fnOf "__lt__" "Kind.__lt__" (defArgs s_Kind___lt__) (defBody s_Kind___lt__) (defScope s_Kind___lt__) .none kVKind___lt__ dcKind___lt__ pmKind___lt__ anKind___lt__ cdKind___lt__ ctKind___lt__), slKind___lt__⟩)
    (hcKind___lt__ : PySem.W.codeIn K cdKind___lt__ "Kind.__lt__" = true)
    (hkKind___lt__ : PySem.W.keepIn K (.ref fKind___lt__) = true)
    (haWorld___init__ : PySem.W.findIn K (.ref C_World) "__init__" = some (some (.ref fWorld___init__)))
    (hiWorld___init__ : PySem.W.isFn K (.ref fWorld___init__) = true)
    (hlWorld___init__ : K.lookup fWorld___init__ = some ⟨ocWorld___init__, odWorld___init__, .func (PySem.W.fnOf "__init__" "World.__init__" (defArgs s_World___init__) (defBody s_World___init__) (defScope s_World___init__) .none kVWorld___init__ dcWorld___init__ pmWorld___init__ anWorld___init__ cdWorld___init__ ctWorld___init__), slWorld___init__⟩)
    (hcWorld___init__ : PySem.W.codeIn K cdWorld___init__ "World.__init__" = true)
    (hkWorld___init__ : PySem.W.keepIn K (.ref fWorld___init__) = true)
    (ha_are_kinds : PySem.W.nsIn K mainGlobals "_are_kinds" = some (some (.ref f_are_kinds)))
    (hl_are_kinds : K.lookup f_are_kinds = some ⟨oc_are_kinds, od_are_kinds, .func (PySem.W.fnOf "_are_kinds" "_are_kinds" (defArgs s__are_kinds) (defBody s__are_kinds) (defScope s__are_kinds) .none kV_are_kinds dc_are_kinds pm_are_kinds an_are_kinds cd_are_kinds ct_are_kinds), sl_are_kinds⟩)
    (hc_are_kinds : PySem.W.codeIn K cd_are_kinds "_are_kinds" = true)
    (hk_are_kinds : PySem.W.keepIn K (.ref f_are_kinds) = true)
    (ha_are_columns : PySem.W.nsIn K mainGlobals "_are_columns" = some (some (.ref f_are_columns)))
    (hl_are_columns : K.lookup f_are_columns = some ⟨oc_are_columns, od_are_columns, .func (PySem.W.fnOf "_are_columns" "_are_columns" (defArgs s__are_columns) (defBody s__are_columns) (defScope s__are_columns) .none kV_are_columns dc_are_columns pm_are_columns an_are_columns cd_are_columns ct_are_columns), sl_are_columns⟩)
    (hc_are_columns : PySem.W.codeIn K cd_are_columns "_are_columns" = true)
    (hk_are_columns : PySem.W.keepIn K (.ref f_are_columns) = true)
    (ha_are_programs : PySem.W.nsIn K mainGlobals "_are_programs" = some (some (.ref f_are_programs)))
    (hl_are_programs : K.lookup f_are_programs = some ⟨oc_are_programs, od_are_programs, .func (PySem.W.fnOf "_are_programs" "_are_programs" (defArgs s__are_programs) (defBody s__are_programs) (defScope s__are_programs) .none kV_are_programs dc_are_programs pm_are_programs an_are_programs cd_are_programs ct_are_programs), sl_are_programs⟩)
    (hc_are_programs : PySem.W.codeIn K cd_are_programs "_are_programs" = true)
    (hk_are_programs : PySem.W.keepIn K (.ref f_are_programs) = true)
    (ha_is_program : PySem.W.nsIn K mainGlobals "_is_program" = some (some (.ref f_is_program)))
    (hl_is_program : K.lookup f_is_program = some ⟨oc_is_program, od_is_program, .func (PySem.W.fnOf "_is_program" "_is_program" (defArgs s__is_program) (defBody s__is_program) (defScope s__is_program) .none kV_is_program dc_is_program pm_is_program an_is_program cd_is_program ct_is_program), sl_is_program⟩)
    (hc_is_program : PySem.W.codeIn K cd_is_program "_is_program" = true)
    (hk_is_program : PySem.W.keepIn K (.ref f_is_program) = true)
    (ha_is_edition : PySem.W.nsIn K mainGlobals "_is_edition" = some (some (.ref f_is_edition)))
    (hl_is_edition : K.lookup f_is_edition = some ⟨oc_is_edition, od_is_edition, .func (PySem.W.fnOf "_is_edition" "_is_edition" (defArgs s__is_edition) (defBody s__is_edition) (defScope s__is_edition) .none kV_is_edition dc_is_edition pm_is_edition an_is_edition cd_is_edition ct_is_edition), sl_is_edition⟩)
    (hc_is_edition : PySem.W.codeIn K cd_is_edition "_is_edition" = true)
    (hk_is_edition : PySem.W.keepIn K (.ref f_is_edition) = true)
    (ha_are_rows : PySem.W.nsIn K mainGlobals "_are_rows" = some (some (.ref f_are_rows)))
    (hl_are_rows : K.lookup f_are_rows = some ⟨oc_are_rows, od_are_rows, .func (PySem.W.fnOf "_are_rows" "_are_rows" (defArgs s__are_rows) (defBody s__are_rows) (defScope s__are_rows) .none kV_are_rows dc_are_rows pm_are_rows an_are_rows cd_are_rows ct_are_rows), sl_are_rows⟩)
    (hc_are_rows : PySem.W.codeIn K cd_are_rows "_are_rows" = true)
    (hk_are_rows : PySem.W.keepIn K (.ref f_are_rows) = true)
    (ha_is_read : PySem.W.nsIn K mainGlobals "_is_read" = some (some (.ref f_is_read)))
    (hl_is_read : K.lookup f_is_read = some ⟨oc_is_read, od_is_read, .func (PySem.W.fnOf "_is_read" "_is_read" (defArgs s__is_read) (defBody s__is_read) (defScope s__is_read) .none kV_is_read dc_is_read pm_is_read an_is_read cd_is_read ct_is_read), sl_is_read⟩)
    (hc_is_read : PySem.W.codeIn K cd_is_read "_is_read" = true)
    (hk_is_read : PySem.W.keepIn K (.ref f_is_read) = true)
    (ha_is_write : PySem.W.nsIn K mainGlobals "_is_write" = some (some (.ref f_is_write)))
    (hl_is_write : K.lookup f_is_write = some ⟨oc_is_write, od_is_write, .func (PySem.W.fnOf "_is_write" "_is_write" (defArgs s__is_write) (defBody s__is_write) (defScope s__is_write) .none kV_is_write dc_is_write pm_is_write an_is_write cd_is_write ct_is_write), sl_is_write⟩)
    (hc_is_write : PySem.W.codeIn K cd_is_write "_is_write" = true)
    (hk_is_write : PySem.W.keepIn K (.ref f_is_write) = true)
    (ha_is_first_edition : PySem.W.nsIn K mainGlobals "_is_first_edition" = some (some (.ref f_is_first_edition)))
    (hl_is_first_edition : K.lookup f_is_first_edition = some ⟨oc_is_first_edition, od_is_first_edition, .func (PySem.W.fnOf "_is_first_edition" "_is_first_edition" (defArgs s__is_first_edition) (defBody s__is_first_edition) (defScope s__is_first_edition) .none kV_is_first_edition dc_is_first_edition pm_is_first_edition an_is_first_edition cd_is_first_edition ct_is_first_edition), sl_is_first_edition⟩)
    (hc_is_first_edition : PySem.W.codeIn K cd_is_first_edition "_is_first_edition" = true)
    (hk_is_first_edition : PySem.W.keepIn K (.ref f_is_first_edition) = true)
    (ha_many_in_two_events : PySem.W.nsIn K mainGlobals "_many_in_two_events" = some (some (.ref f_many_in_two_events)))
    (hl_many_in_two_events : K.lookup f_many_in_two_events = some ⟨oc_many_in_two_events, od_many_in_two_events, .func (PySem.W.fnOf "_many_in_two_events" "_many_in_two_events" (defArgs s__many_in_two_events) (defBody s__many_in_two_events) (defScope s__many_in_two_events) .none kV_many_in_two_events dc_many_in_two_events pm_many_in_two_events an_many_in_two_events cd_many_in_two_events ct_many_in_two_events), sl_many_in_two_events⟩)
    (hc_many_in_two_events : PySem.W.codeIn K cd_many_in_two_events "_many_in_two_events" = true)
    (hk_many_in_two_events : PySem.W.keepIn K (.ref f_many_in_two_events) = true)
    (ha_law_pot_of : PySem.W.nsIn K mainGlobals "_law_pot_of" = some (some (.ref f_law_pot_of)))
    (hl_law_pot_of : K.lookup f_law_pot_of = some ⟨oc_law_pot_of, od_law_pot_of, .func (PySem.W.fnOf "_law_pot_of" "_law_pot_of" (defArgs s__law_pot_of) (defBody s__law_pot_of) (defScope s__law_pot_of) .none kV_law_pot_of dc_law_pot_of pm_law_pot_of an_law_pot_of cd_law_pot_of ct_law_pot_of), sl_law_pot_of⟩)
    (hc_law_pot_of : PySem.W.codeIn K cd_law_pot_of "_law_pot_of" = true)
    (hk_law_pot_of : PySem.W.keepIn K (.ref f_law_pot_of) = true)
    (ha_law_take : PySem.W.nsIn K mainGlobals "_law_take" = some (some (.ref f_law_take)))
    (hl_law_take : K.lookup f_law_take = some ⟨oc_law_take, od_law_take, .func (PySem.W.fnOf "_law_take" "_law_take" (defArgs s__law_take) (defBody s__law_take) (defScope s__law_take) .none kV_law_take dc_law_take pm_law_take an_law_take cd_law_take ct_law_take), sl_law_take⟩)
    (hc_law_take : PySem.W.codeIn K cd_law_take "_law_take" = true)
    (hk_law_take : PySem.W.keepIn K (.ref f_law_take) = true)
    (ha_law_of : PySem.W.nsIn K mainGlobals "_law_of" = some (some (.ref f_law_of)))
    (hl_law_of : K.lookup f_law_of = some ⟨oc_law_of, od_law_of, .func (PySem.W.fnOf "_law_of" "_law_of" (defArgs s__law_of) (defBody s__law_of) (defScope s__law_of) .none kV_law_of dc_law_of pm_law_of an_law_of cd_law_of ct_law_of), sl_law_of⟩)
    (hc_law_of : PySem.W.codeIn K cd_law_of "_law_of" = true)
    (hk_law_of : PySem.W.keepIn K (.ref f_law_of) = true)
    (ha_law_hand_world : PySem.W.nsIn K mainGlobals "_law_hand_world" = some (some (.ref f_law_hand_world)))
    (hl_law_hand_world : K.lookup f_law_hand_world = some ⟨oc_law_hand_world, od_law_hand_world, .func (PySem.W.fnOf "_law_hand_world" "_law_hand_world" (defArgs s__law_hand_world) (defBody s__law_hand_world) (defScope s__law_hand_world) .none kV_law_hand_world dc_law_hand_world pm_law_hand_world an_law_hand_world cd_law_hand_world ct_law_hand_world), sl_law_hand_world⟩)
    (hc_law_hand_world : PySem.W.codeIn K cd_law_hand_world "_law_hand_world" = true)
    (hk_law_hand_world : PySem.W.keepIn K (.ref f_law_hand_world) = true)
    (ha_law_names : PySem.W.nsIn K mainGlobals "_law_names" = some (some (.ref f_law_names)))
    (hl_law_names : K.lookup f_law_names = some ⟨oc_law_names, od_law_names, .func (PySem.W.fnOf "_law_names" "_law_names" (defArgs s__law_names) (defBody s__law_names) (defScope s__law_names) .none kV_law_names dc_law_names pm_law_names an_law_names cd_law_names ct_law_names), sl_law_names⟩)
    (hc_law_names : PySem.W.codeIn K cd_law_names "_law_names" = true)
    (hk_law_names : PySem.W.keepIn K (.ref f_law_names) = true)
    (ha_law_refused : PySem.W.nsIn K mainGlobals "_law_refused" = some (some (.ref f_law_refused)))
    (hl_law_refused : K.lookup f_law_refused = some ⟨oc_law_refused, od_law_refused, .func (PySem.W.fnOf "_law_refused" "_law_refused" (defArgs s__law_refused) (defBody s__law_refused) (defScope s__law_refused) .none kV_law_refused dc_law_refused pm_law_refused an_law_refused cd_law_refused ct_law_refused), sl_law_refused⟩)
    (hc_law_refused : PySem.W.codeIn K cd_law_refused "_law_refused" = true)
    (hk_law_refused : PySem.W.keepIn K (.ref f_law_refused) = true)
    (ha_law_releases_right : PySem.W.nsIn K mainGlobals "_law_releases_right" = some (some (.ref f_law_releases_right)))
    (hl_law_releases_right : K.lookup f_law_releases_right = some ⟨oc_law_releases_right, od_law_releases_right, .func (PySem.W.fnOf "_law_releases_right" "_law_releases_right" (defArgs s__law_releases_right) (defBody s__law_releases_right) (defScope s__law_releases_right) .none kV_law_releases_right dc_law_releases_right pm_law_releases_right an_law_releases_right cd_law_releases_right ct_law_releases_right), sl_law_releases_right⟩)
    (hc_law_releases_right : PySem.W.codeIn K cd_law_releases_right "_law_releases_right" = true)
    (hk_law_releases_right : PySem.W.keepIn K (.ref f_law_releases_right) = true)
    (ha_law_sides_right : PySem.W.nsIn K mainGlobals "_law_sides_right" = some (some (.ref f_law_sides_right)))
    (hl_law_sides_right : K.lookup f_law_sides_right = some ⟨oc_law_sides_right, od_law_sides_right, .func (PySem.W.fnOf "_law_sides_right" "_law_sides_right" (defArgs s__law_sides_right) (defBody s__law_sides_right) (defScope s__law_sides_right) .none kV_law_sides_right dc_law_sides_right pm_law_sides_right an_law_sides_right cd_law_sides_right ct_law_sides_right), sl_law_sides_right⟩)
    (hc_law_sides_right : PySem.W.codeIn K cd_law_sides_right "_law_sides_right" = true)
    (hk_law_sides_right : PySem.W.keepIn K (.ref f_law_sides_right) = true)
    (ha_law_numbers_right : PySem.W.nsIn K mainGlobals "_law_numbers_right" = some (some (.ref f_law_numbers_right)))
    (hl_law_numbers_right : K.lookup f_law_numbers_right = some ⟨oc_law_numbers_right, od_law_numbers_right, .func (PySem.W.fnOf "_law_numbers_right" "_law_numbers_right" (defArgs s__law_numbers_right) (defBody s__law_numbers_right) (defScope s__law_numbers_right) .none kV_law_numbers_right dc_law_numbers_right pm_law_numbers_right an_law_numbers_right cd_law_numbers_right ct_law_numbers_right), sl_law_numbers_right⟩)
    (hc_law_numbers_right : PySem.W.codeIn K cd_law_numbers_right "_law_numbers_right" = true)
    (hk_law_numbers_right : PySem.W.keepIn K (.ref f_law_numbers_right) = true)
    (halaw : PySem.W.nsIn K mainGlobals "law" = some (some (.ref flaw)))
    (hllaw : K.lookup flaw = some ⟨oclaw, odlaw, .func (PySem.W.fnOf "law" "law" (defArgs s_law) (defBody s_law) (defScope s_law) .none kVlaw dclaw pmlaw anlaw cdlaw ctlaw), sllaw⟩)
    (hclaw : PySem.W.codeIn K cdlaw "law" = true)
    (hklaw : PySem.W.keepIn K (.ref flaw) = true)
    (hefBadSpan : PySem.W.typeIn K (.ref fBadSpan___init__) = some (.type "function"))
    (hefBadPlan : PySem.W.typeIn K (.ref fBadPlan___init__) = some (.type "function"))
    (hzint : PySem.W.nsIn K mainGlobals "int" = some none)
    (hzlen : PySem.W.nsIn K mainGlobals "len" = some none)
    (hzabs : PySem.W.nsIn K mainGlobals "abs" = some none)
    (hzbool : PySem.W.nsIn K mainGlobals "bool" = some none)
    (hztuple : PySem.W.nsIn K mainGlobals "tuple" = some none)
    (hzisinstance : PySem.W.nsIn K mainGlobals "isinstance" = some none)
    (hzrange : PySem.W.nsIn K mainGlobals "range" = some none)
    (hzmax : PySem.W.nsIn K mainGlobals "max" = some none)
    (hzmin : PySem.W.nsIn K mainGlobals "min" = some none)
    (hzall : PySem.W.nsIn K mainGlobals "all" = some none)
    (hzrepr : PySem.W.nsIn K mainGlobals "repr" = some none)
    (hzstr : PySem.W.nsIn K mainGlobals "str" = some none)
    (hzany : PySem.W.nsIn K mainGlobals "any" = some none)
    (hzlist : PySem.W.nsIn K mainGlobals "list" = some none)
    (hzzip : PySem.W.nsIn K mainGlobals "zip" = some none)
    (hzenumerate : PySem.W.nsIn K mainGlobals "enumerate" = some none) :
    ∃ fd : FuncData, (∀ (s : Shared) (v : Value), BindsTo s fd ⟨[v], []⟩ [("_law_script", v)]) ∧ ∀ base : Heap, K.In base → base.Ns mainGlobals mg → FnG l.prog w K mg base CX0 10 fa fd P_law (spLaw K) := by
  have e := hfa.symm.trans (PySem.W.mg_of X G halaw)
  cases e
  have T : TxD2 mg := ⟨⟨PySem.W.mg_none_of X G hzint, PySem.W.mg_none_of X G hzlen, PySem.W.mg_none_of X G hzabs, PySem.W.mg_none_of X G hzbool, PySem.W.mg_none_of X G hztuple, PySem.W.mg_none_of X G hzisinstance, PySem.W.mg_none_of X G hzrange, PySem.W.mg_none_of X G hzmax, PySem.W.mg_none_of X G hzmin, PySem.W.mg_none_of X G hzall, PySem.W.mg_none_of X G hzrepr, PySem.W.mg_none_of X G hzstr, PySem.W.mg_none_of X G hzany, PySem.W.mg_none_of X G hzlist, PySem.W.mg_none_of X G hzzip, PySem.W.mg_none_of X G hzenumerate⟩, PySem.W.mg_none_of X G hzdict⟩
  have n_ve := PySem.W.mg_none_of X G heW6
  have g_WidthError := PySem.W.mg_of X G heW0
  have Feditions_of := fun_mk (st := s_editions_of) hleditions_of hceditions_of hkeditions_of
  have beditions_of := Feditions_of.binds (ps := P_editions_of) fun _ _ _ _ _ _ us hl => match us, hl with | [_, _], _ => rfl
  have Fother_side := fun_mk (st := s_other_side) hlother_side hcother_side hkother_side
  have bother_side := Fother_side.binds (ps := P_other_side) fun _ _ _ _ _ _ us hl => match us, hl with | [_], _ => rfl
  have FBadSpan___init__ := fun_mk (st := s_BadSpan___init__) hlBadSpan___init__ hcBadSpan___init__ hkBadSpan___init__
  have bBadSpan___init__ := FBadSpan___init__.binds (ps := P_BadSpan___init__) fun _ _ _ _ _ _ us hl => match us, hl with | [_, _], _ => rfl
  have FBadPlan___init__ := fun_mk (st := s_BadPlan___init__) hlBadPlan___init__ hcBadPlan___init__ hkBadPlan___init__
  have bBadPlan___init__ := FBadPlan___init__.binds (ps := P_BadPlan___init__) fun _ _ _ _ _ _ us hl => match us, hl with | [_, _], _ => rfl
  have Fis_integer := fun_mk (st := s_is_integer) hlis_integer hcis_integer hkis_integer
  have bis_integer := Fis_integer.binds (ps := P_is_integer) fun _ _ _ _ _ _ us hl => match us, hl with | [_], _ => rfl
  have Fis_between := fun_mk (st := s_is_between) hlis_between hcis_between hkis_between
  have bis_between := Fis_between.binds (ps := P_is_between) fun _ _ _ _ _ _ us hl => match us, hl with | [_, _, _], _ => rfl
  have Flesser := fun_mk (st := s_lesser) hllesser hclesser hklesser
  have blesser := Flesser.binds (ps := P_lesser) fun _ _ _ _ _ _ us hl => match us, hl with | [_, _], _ => rfl
  have Fgreater := fun_mk (st := s_greater) hlgreater hcgreater hkgreater
  have bgreater := Fgreater.binds (ps := P_greater) fun _ _ _ _ _ _ us hl => match us, hl with | [_, _], _ => rfl
  have Fis_name := fun_mk (st := s_is_name) hlis_name hcis_name hkis_name
  have bis_name := Fis_name.binds (ps := P_is_name) fun _ _ _ _ _ _ us hl => match us, hl with | [_], _ => rfl
  have Fis_tuple_of := fun_mk (st := s_is_tuple_of) hlis_tuple_of hcis_tuple_of hkis_tuple_of
  have bis_tuple_of := Fis_tuple_of.binds (ps := P_is_tuple_of) fun _ _ _ _ _ _ us hl => match us, hl with | [_, _, _], _ => rfl
  have Fis_ascending := fun_mk (st := s_is_ascending) hlis_ascending hcis_ascending hkis_ascending
  have bis_ascending := Fis_ascending.binds (ps := P_is_ascending) fun _ _ _ _ _ _ us hl => match us, hl with | [_], _ => rfl
  have Fstep_form := fun_mk (st := s_step_form) hlstep_form hcstep_form hkstep_form
  have bstep_form := Fstep_form.binds (ps := P_step_form) fun _ _ _ _ _ _ us hl => match us, hl with | [_], _ => rfl
  have Fis_plain_part := fun_mk (st := s_is_plain_part) hlis_plain_part hcis_plain_part hkis_plain_part
  have bis_plain_part := Fis_plain_part.binds (ps := P_is_plain_part) fun _ _ _ _ _ _ us hl => match us, hl with | [_, _], _ => rfl
  have Fis_count := fun_mk (st := s_is_count) hlis_count hcis_count hkis_count
  have bis_count := Fis_count.binds (ps := P_is_count) fun _ _ _ _ _ _ us hl => match us, hl with | [_], _ => rfl
  have F_first_word := fun_mk (st := s__first_word) hl_first_word hc_first_word hk_first_word
  have b_first_word := F_first_word.binds (ps := P__first_word) fun _ _ _ _ _ _ us hl => match us, hl with | [_], _ => rfl
  have Fis_span := fun_mk (st := s_is_span) hlis_span hcis_span hkis_span
  have bis_span := Fis_span.binds (ps := P_is_span) fun _ _ _ _ _ _ us hl => match us, hl with | [_], _ => rfl
  have Fis_fit := fun_mk (st := s_is_fit) hlis_fit hcis_fit hkis_fit
  have bis_fit := Fis_fit.binds (ps := P_is_fit) fun _ _ _ _ _ _ us hl => match us, hl with | [_, _], _ => rfl
  have F_are_none_or_many := fun_mk (st := s__are_none_or_many) hl_are_none_or_many hc_are_none_or_many hk_are_none_or_many
  have b_are_none_or_many := F_are_none_or_many.binds (ps := P__are_none_or_many) fun _ _ _ _ _ _ us hl => match us, hl with | [_], _ => rfl
  have FSetup___init__ := fun_mk (st := s_Setup___init__) hlSetup___init__ hcSetup___init__ hkSetup___init__
  have bSetup___init__ := FSetup___init__.binds (ps := P_Setup___init__) fun _ _ _ _ _ _ us hl => match us, hl with | [_, _, _], _ => rfl
  have FSetup_behind_begin := fun_mk (st := s_Setup_behind_begin) hlSetup_behind_begin hcSetup_behind_begin hkSetup_behind_begin
  have bSetup_behind_begin := FSetup_behind_begin.binds (ps := P_Setup_behind_begin) fun _ _ _ _ _ _ us hl => match us, hl with | [_, _], _ => rfl
  have FSetup_behind_end := fun_mk (st := s_Setup_behind_end) hlSetup_behind_end hcSetup_behind_end hkSetup_behind_end
  have bSetup_behind_end := FSetup_behind_end.binds (ps := P_Setup_behind_end) fun _ _ _ _ _ _ us hl => match us, hl with | [_], _ => rfl
  have FSetup_what_holds := fun_mk (st := s_Setup_what_holds) hlSetup_what_holds hcSetup_what_holds hkSetup_what_holds
  have bSetup_what_holds := FSetup_what_holds.binds (ps := P_Setup_what_holds) fun _ _ _ _ _ _ us hl => match us, hl with | [_], _ => rfl
  have F_twin := fun_mk (st := s__twin) hl_twin hc_twin hk_twin
  have b_twin := F_twin.binds (ps := P__twin) fun _ _ _ _ _ _ us hl => match us, hl with | [_], _ => rfl
  have F_running := fun_mk (st := s__running) hl_running hc_running hk_running
  have b_running := F_running.binds (ps := P__running) fun _ _ _ _ _ _ us hl => match us, hl with | [_, _], _ => rfl
  have F_can_add := fun_mk (st := s__can_add) hl_can_add hc_can_add hk_can_add
  have b_can_add := F_can_add.binds (ps := P__can_add) fun _ _ _ _ _ _ us hl => match us, hl with | [_, _], _ => rfl
  have F_add := fun_mk (st := s__add) hl_add hc_add hk_add
  have b_add := F_add.binds (ps := P__add) fun _ _ _ _ _ _ us hl => match us, hl with | [_, _], _ => rfl
  have F_can_drop := fun_mk (st := s__can_drop) hl_can_drop hc_can_drop hk_can_drop
  have b_can_drop := F_can_drop.binds (ps := P__can_drop) fun _ _ _ _ _ _ us hl => match us, hl with | [_, _], _ => rfl
  have F_drop := fun_mk (st := s__drop) hl_drop hc_drop hk_drop
  have b_drop := F_drop.binds (ps := P__drop) fun _ _ _ _ _ _ us hl => match us, hl with | [_, _], _ => rfl
  have F_can_mirror_up := fun_mk (st := s__can_mirror_up) hl_can_mirror_up hc_can_mirror_up hk_can_mirror_up
  have b_can_mirror_up := F_can_mirror_up.binds (ps := P__can_mirror_up) fun _ _ _ _ _ _ us hl => match us, hl with | [_, _], _ => rfl
  have F_mirror_up := fun_mk (st := s__mirror_up) hl_mirror_up hc_mirror_up hk_mirror_up
  have b_mirror_up := F_mirror_up.binds (ps := P__mirror_up) fun _ _ _ _ _ _ us hl => match us, hl with | [_, _], _ => rfl
  have F_is_up := fun_mk (st := s__is_up) hl_is_up hc_is_up hk_is_up
  have b_is_up := F_is_up.binds (ps := P__is_up) fun _ _ _ _ _ _ us hl => match us, hl with | [_, _], _ => rfl
  have F_end_up := fun_mk (st := s__end_up) hl_end_up hc_end_up hk_end_up
  have b_end_up := F_end_up.binds (ps := P__end_up) fun _ _ _ _ _ _ us hl => match us, hl with | [_, _], _ => rfl
  have F_can_mirror_down := fun_mk (st := s__can_mirror_down) hl_can_mirror_down hc_can_mirror_down hk_can_mirror_down
  have b_can_mirror_down := F_can_mirror_down.binds (ps := P__can_mirror_down) fun _ _ _ _ _ _ us hl => match us, hl with | [_, _], _ => rfl
  have F_mirror_down := fun_mk (st := s__mirror_down) hl_mirror_down hc_mirror_down hk_mirror_down
  have b_mirror_down := F_mirror_down.binds (ps := P__mirror_down) fun _ _ _ _ _ _ us hl => match us, hl with | [_, _], _ => rfl
  have F_is_down := fun_mk (st := s__is_down) hl_is_down hc_is_down hk_is_down
  have b_is_down := F_is_down.binds (ps := P__is_down) fun _ _ _ _ _ _ us hl => match us, hl with | [_, _], _ => rfl
  have F_end_down := fun_mk (st := s__end_down) hl_end_down hc_end_down hk_end_down
  have b_end_down := F_end_down.binds (ps := P__end_down) fun _ _ _ _ _ _ us hl => match us, hl with | [_, _], _ => rfl
  have F_has_both := fun_mk (st := s__has_both) hl_has_both hc_has_both hk_has_both
  have b_has_both := F_has_both.binds (ps := P__has_both) fun _ _ _ _ _ _ us hl => match us, hl with | [_, _], _ => rfl
  have F_can_release := fun_mk (st := s__can_release) hl_can_release hc_can_release hk_can_release
  have b_can_release := F_can_release.binds (ps := P__can_release) fun _ _ _ _ _ _ us hl => match us, hl with | [_, _], _ => rfl
  have F_can_withdraw := fun_mk (st := s__can_withdraw) hl_can_withdraw hc_can_withdraw hk_can_withdraw
  have b_can_withdraw := F_can_withdraw.binds (ps := P__can_withdraw) fun _ _ _ _ _ _ us hl => match us, hl with | [_, _], _ => rfl
  have F_go_on := fun_mk (st := s__go_on) hl_go_on hc_go_on hk_go_on
  have b_go_on := F_go_on.binds (ps := P__go_on) fun _ _ _ _ _ _ us hl => match us, hl with | [_, _], _ => rfl
  have F_can_grow := fun_mk (st := s__can_grow) hl_can_grow hc_can_grow hk_can_grow
  have b_can_grow := F_can_grow.binds (ps := P__can_grow) fun _ _ _ _ _ _ us hl => match us, hl with | [_, _], _ => rfl
  have F_grow := fun_mk (st := s__grow) hl_grow hc_grow hk_grow
  have b_grow := F_grow.binds (ps := P__grow) fun _ _ _ _ _ _ us hl => match us, hl with | [_, _], _ => rfl
  have F_can_purge := fun_mk (st := s__can_purge) hl_can_purge hc_can_purge hk_can_purge
  have b_can_purge := F_can_purge.binds (ps := P__can_purge) fun _ _ _ _ _ _ us hl => match us, hl with | [_, _], _ => rfl
  have F_purge := fun_mk (st := s__purge) hl_purge hc_purge hk_purge
  have b_purge := F_purge.binds (ps := P__purge) fun _ _ _ _ _ _ us hl => match us, hl with | [_, _], _ => rfl
  have Fis_step := fun_mk (st := s_is_step) hlis_step hcis_step hkis_step
  have bis_step := Fis_step.binds (ps := P_is_step) fun _ _ _ _ _ _ us hl => match us, hl with | [_, _], _ => rfl
  have Fmoments := fun_mk (st := s_moments) hlmoments hcmoments hkmoments
  have bmoments := Fmoments.binds (ps := P_moments) fun _ _ _ _ _ _ us hl => match us, hl with | [_, _, _], _ => rfl
  have Fare_parts := fun_mk (st := s_are_parts) hlare_parts hcare_parts hkare_parts
  have bare_parts := Fare_parts.binds (ps := P_are_parts) fun _ _ _ _ _ _ us hl => match us, hl with | [_, _, _], _ => rfl
  have F_is_part := fun_mk (st := s__is_part) hl_is_part hc_is_part hk_is_part
  have b_is_part := F_is_part.binds (ps := P__is_part) fun _ _ _ _ _ _ us hl => match us, hl with | [_, _, _], _ => rfl
  have FKind___init__ := fun_mk (st := s_Kind___init__) hlKind___init__ hcKind___init__ hkKind___init__
  have bKind___init__ := FKind___init__.binds (ps := P_Kind___init__) fun _ _ _ _ _ _ us hl => match us, hl with | [_, _, _], _ => rfl
  have FKind___contains__ := fun_mk (st := s_Kind___contains__) hlKind___contains__ hcKind___contains__ hkKind___contains__
  have bKind___contains__ := FKind___contains__.binds (ps := P_Kind___contains__) fun _ _ _ _ _ _ us hl => match us, hl with | [_, _], _ => rfl
  have FKind___eq__ := fun_mk (st := s_Kind___eq__) hlKind___eq__ hcKind___eq__ hkKind___eq__
  have bKind___eq__ := FKind___eq__.binds (ps := P_Kind___eq__) fun _ _ _ _ _ _ us hl => match us, hl with | [_, _], _ => rfl
  have FKind___le__ := fun_mk (st := s_Kind___le__) hlKind___le__ hcKind___le__ hkKind___le__
  have bKind___le__ := FKind___le__.binds (ps := P_Kind___le__) fun _ _ _ _ _ _ us hl => match us, hl with | [_, _], _ => rfl
  have FKind___lt__ := fun_mk (st := s_Kind___lt__) hlKind___lt__ hcKind___lt__ hkKind___lt__
  have bKind___lt__ := FKind___lt__.binds (ps := P_Kind___lt__) fun _ _ _ _ _ _ us hl => match us, hl with | [_, _], _ => rfl
  have FWorld___init__ := fun_mk (st := s_World___init__) hlWorld___init__ hcWorld___init__ hkWorld___init__
  have bWorld___init__ := FWorld___init__.binds (ps := P_World___init__) fun _ _ _ _ _ _ us hl => match us, hl with | [_, _, _, _, _], _ => rfl
  have F_are_kinds := fun_mk (st := s__are_kinds) hl_are_kinds hc_are_kinds hk_are_kinds
  have b_are_kinds := F_are_kinds.binds (ps := P__are_kinds) fun _ _ _ _ _ _ us hl => match us, hl with | [_, _], _ => rfl
  have F_are_columns := fun_mk (st := s__are_columns) hl_are_columns hc_are_columns hk_are_columns
  have b_are_columns := F_are_columns.binds (ps := P__are_columns) fun _ _ _ _ _ _ us hl => match us, hl with | [_], _ => rfl
  have F_are_programs := fun_mk (st := s__are_programs) hl_are_programs hc_are_programs hk_are_programs
  have b_are_programs := F_are_programs.binds (ps := P__are_programs) fun _ _ _ _ _ _ us hl => match us, hl with | [_, _], _ => rfl
  have F_is_program := fun_mk (st := s__is_program) hl_is_program hc_is_program hk_is_program
  have b_is_program := F_is_program.binds (ps := P__is_program) fun _ _ _ _ _ _ us hl => match us, hl with | [_, _], _ => rfl
  have F_is_edition := fun_mk (st := s__is_edition) hl_is_edition hc_is_edition hk_is_edition
  have b_is_edition := F_is_edition.binds (ps := P__is_edition) fun _ _ _ _ _ _ us hl => match us, hl with | [_, _], _ => rfl
  have F_are_rows := fun_mk (st := s__are_rows) hl_are_rows hc_are_rows hk_are_rows
  have b_are_rows := F_are_rows.binds (ps := P__are_rows) fun _ _ _ _ _ _ us hl => match us, hl with | [_, _, _], _ => rfl
  have F_is_read := fun_mk (st := s__is_read) hl_is_read hc_is_read hk_is_read
  have b_is_read := F_is_read.binds (ps := P__is_read) fun _ _ _ _ _ _ us hl => match us, hl with | [_], _ => rfl
  have F_is_write := fun_mk (st := s__is_write) hl_is_write hc_is_write hk_is_write
  have b_is_write := F_is_write.binds (ps := P__is_write) fun _ _ _ _ _ _ us hl => match us, hl with | [_, _], _ => rfl
  have F_is_first_edition := fun_mk (st := s__is_first_edition) hl_is_first_edition hc_is_first_edition hk_is_first_edition
  have b_is_first_edition := F_is_first_edition.binds (ps := P__is_first_edition) fun _ _ _ _ _ _ us hl => match us, hl with | [_], _ => rfl
  have F_many_in_two_events := fun_mk (st := s__many_in_two_events) hl_many_in_two_events hc_many_in_two_events hk_many_in_two_events
  have b_many_in_two_events := F_many_in_two_events.binds (ps := P__many_in_two_events) fun _ _ _ _ _ _ us hl => match us, hl with | [_], _ => rfl
  have F_law_pot_of := fun_mk (st := s__law_pot_of) hl_law_pot_of hc_law_pot_of hk_law_pot_of
  have b_law_pot_of := F_law_pot_of.binds (ps := P__law_pot_of) fun _ _ _ _ _ _ us hl => match us, hl with | [_, _], _ => rfl
  have F_law_take := fun_mk (st := s__law_take) hl_law_take hc_law_take hk_law_take
  have b_law_take := F_law_take.binds (ps := P__law_take) fun _ _ _ _ _ _ us hl => match us, hl with | [_, _], _ => rfl
  have F_law_of := fun_mk (st := s__law_of) hl_law_of hc_law_of hk_law_of
  have b_law_of := F_law_of.binds (ps := P__law_of) fun _ _ _ _ _ _ us hl => match us, hl with | [_, _], _ => rfl
  have F_law_hand_world := fun_mk (st := s__law_hand_world) hl_law_hand_world hc_law_hand_world hk_law_hand_world
  have b_law_hand_world := F_law_hand_world.binds (ps := P__law_hand_world) fun _ _ _ _ _ _ us hl => match us, hl with | [_], _ => rfl
  have F_law_names := fun_mk (st := s__law_names) hl_law_names hc_law_names hk_law_names
  have b_law_names := F_law_names.binds (ps := P__law_names) fun _ _ _ _ _ _ us hl => match us, hl with | [_], _ => rfl
  have F_law_refused := fun_mk (st := s__law_refused) hl_law_refused hc_law_refused hk_law_refused
  have b_law_refused := F_law_refused.binds (ps := P__law_refused) fun _ _ _ _ _ _ us hl => match us, hl with | [_, _, _], _ => rfl
  have F_law_releases_right := fun_mk (st := s__law_releases_right) hl_law_releases_right hc_law_releases_right hk_law_releases_right
  have b_law_releases_right := F_law_releases_right.binds (ps := P__law_releases_right) fun _ _ _ _ _ _ us hl => match us, hl with | [_, _], _ => rfl
  have F_law_sides_right := fun_mk (st := s__law_sides_right) hl_law_sides_right hc_law_sides_right hk_law_sides_right
  have b_law_sides_right := F_law_sides_right.binds (ps := P__law_sides_right) fun _ _ _ _ _ _ us hl => match us, hl with | [_, _], _ => rfl
  have F_law_numbers_right := fun_mk (st := s__law_numbers_right) hl_law_numbers_right hc_law_numbers_right hk_law_numbers_right
  have b_law_numbers_right := F_law_numbers_right.binds (ps := P__law_numbers_right) fun _ _ _ _ _ _ us hl => match us, hl with | [_, _], _ => rfl
  have Flaw := fun_mk (st := s_law) hllaw hclaw hklaw
  refine ⟨PySem.W.fnOf "law" "law" (defArgs s_law) (defBody s_law) (defScope s_law) .none kVlaw dclaw pmlaw anlaw cdlaw ctlaw, fun s v => .of_eq rfl, fun base _ _ => ?_⟩
  have GT_SIDES : GTup K mg "SIDES" a_SIDES (["narrow", "wide"] : List Str) := ⟨PySem.W.mg_of X G hu0SIDES, tupW_sq hu1SIDES (by decide)⟩
  have GT_RULES : GTup K mg "RULES" a_RULES (["cut", "empty", "refuse"] : List Str) := ⟨PySem.W.mg_of X G hu0RULES, tupW_sq hu1RULES (by decide)⟩
  have GT_MANNERS : GTup K mg "MANNERS" a_MANNERS (["empty", "anew"] : List Str) := ⟨PySem.W.mg_of X G hu0MANNERS, tupW_sq hu1MANNERS (by decide)⟩
  have GT_FILLS : GTup K mg "FILLS" a_FILLS (["fill", "fill back"] : List Str) := ⟨PySem.W.mg_of X G hu0FILLS, tupW_sq hu1FILLS (by decide)⟩
  have GT_DEEDS : GTup K mg "DEEDS" a_DEEDS (["match", "order", "show"] : List Str) := ⟨PySem.W.mg_of X G hu0DEEDS, tupW_sq hu1DEEDS (by decide)⟩
  have GT_READ_SIDES : GTup K mg "READ_SIDES" a_READ_SIDES (["narrow", "wide", "either"] : List Str) := ⟨PySem.W.mg_of X G hu0READ_SIDES, tupW_sq hu1READ_SIDES (by decide)⟩
  have GT_HOWS : GTup K mg "HOWS" a_HOWS (["narrow", "wide", "both", "narrow first", "wide first"] : List Str) := ⟨PySem.W.mg_of X G hu0HOWS, tupW_sq hu1HOWS (by decide)⟩
  have GT_IN_TWO_EVENTS : GTup K mg "IN_TWO_EVENTS" a_IN_TWO_EVENTS (["narrow first", "wide first"] : List Str) := ⟨PySem.W.mg_of X G hu0IN_TWO_EVENTS, tupW_sq hu1IN_TWO_EVENTS (by decide)⟩
  have KT_STEP_FORMS : GTab K w mg "STEP_FORMS" a_STEP_FORMS t_STEP_FORMS := gtab_of (PySem.W.mg_of X G hv0STEP_FORMS) hv1STEP_FORMS hv2STEP_FORMS
  have TN : TxN mg n_MOST_LETTERS n_MOST_STEPS n_LEAST_NUMBERS n_LEAST_NARROW n_MOST_PACE n_MOST_IN_TWO_EVENTS := ⟨PySem.W.mg_of X G hgnMOST_LETTERS, PySem.W.mg_of X G hgnMOST_STEPS, PySem.W.mg_of X G hgnLEAST_NUMBERS, PySem.W.mg_of X G hgnLEAST_NARROW, PySem.W.mg_of X G hgnMOST_PACE, PySem.W.mg_of X G hgnMOST_IN_TWO_EVENTS⟩
  obtain ⟨κ, κ_World, κ_Kind, κ_Setup, κ_BadSpan, κ_BadPlan, κ__can_add, κ__can_drop, κ__can_mirror_up, κ__is_up, κ__can_mirror_down, κ__is_down, κ__has_both, κ__can_release, κ__can_withdraw, κ__can_grow, κ__can_purge, κ__add, κ__drop, κ__mirror_up, κ__end_up, κ__mirror_down, κ__end_down, κ__go_on, κ__grow, κ__purge⟩ : ∃ κ : String → Addr, κ "World" = C_World ∧ κ "Kind" = C_Kind ∧ κ "Setup" = C_Setup ∧ κ "BadSpan" = C_BadSpan ∧ κ "BadPlan" = C_BadPlan ∧ κ "_can_add" = f_can_add ∧ κ "_can_drop" = f_can_drop ∧ κ "_can_mirror_up" = f_can_mirror_up ∧ κ "_is_up" = f_is_up ∧ κ "_can_mirror_down" = f_can_mirror_down ∧ κ "_is_down" = f_is_down ∧ κ "_has_both" = f_has_both ∧ κ "_can_release" = f_can_release ∧ κ "_can_withdraw" = f_can_withdraw ∧ κ "_can_grow" = f_can_grow ∧ κ "_can_purge" = f_can_purge ∧ κ "_add" = f_add ∧ κ "_drop" = f_drop ∧ κ "_mirror_up" = f_mirror_up ∧ κ "_end_up" = f_end_up ∧ κ "_mirror_down" = f_mirror_down ∧ κ "_end_down" = f_end_down ∧ κ "_go_on" = f_go_on ∧ κ "_grow" = f_grow ∧ κ "_purge" = f_purge := ⟨fun n => if n = "World" then C_World else if n = "Kind" then C_Kind else if n = "Setup" then C_Setup else if n = "BadSpan" then C_BadSpan else if n = "BadPlan" then C_BadPlan else if n = "_can_add" then f_can_add else if n = "_can_drop" then f_can_drop else if n = "_can_mirror_up" then f_can_mirror_up else if n = "_is_up" then f_is_up else if n = "_can_mirror_down" then f_can_mirror_down else if n = "_is_down" then f_is_down else if n = "_has_both" then f_has_both else if n = "_can_release" then f_can_release else if n = "_can_withdraw" then f_can_withdraw else if n = "_can_grow" then f_can_grow else if n = "_can_purge" then f_can_purge else if n = "_add" then f_add else if n = "_drop" then f_drop else if n = "_mirror_up" then f_mirror_up else if n = "_end_up" then f_end_up else if n = "_mirror_down" then f_mirror_down else if n = "_end_down" then f_end_down else if n = "_go_on" then f_go_on else if n = "_grow" then f_grow else if n = "_purge" then f_purge else C_World, if_pos rfl, (if_neg (by decide)).trans (if_pos rfl), (if_neg (by decide)).trans ((if_neg (by decide)).trans (if_pos rfl)), (if_neg (by decide)).trans ((if_neg (by decide)).trans ((if_neg (by decide)).trans (if_pos rfl))), (if_neg (by decide)).trans ((if_neg (by decide)).trans ((if_neg (by decide)).trans ((if_neg (by decide)).trans (if_pos rfl)))), (if_neg (by decide)).trans ((if_neg (by decide)).trans ((if_neg (by decide)).trans ((if_neg (by decide)).trans ((if_neg (by decide)).trans (if_pos rfl))))), (if_neg (by decide)).trans ((if_neg (by decide)).trans ((if_neg (by decide)).trans ((if_neg (by decide)).trans ((if_neg (by decide)).trans ((if_neg (by decide)).trans (if_pos rfl)))))), (if_neg (by decide)).trans ((if_neg (by decide)).trans ((if_neg (by decide)).trans ((if_neg (by decide)).trans ((if_neg (by decide)).trans ((if_neg (by decide)).trans ((if_neg (by decide)).trans (if_pos rfl))))))), (if_neg (by decide)).trans ((if_neg (by decide)).trans ((if_neg (by decide)).trans ((if_neg (by decide)).trans ((if_neg (by decide)).trans ((if_neg (by decide)).trans ((if_neg (by decide)).trans ((if_neg (by decide)).trans (if_pos rfl)))))))), (if_neg (by decide)).trans ((if_neg (by decide)).trans ((if_neg (by decide)).trans ((if_neg (by decide)).trans ((if_neg (by decide)).trans ((if_neg (by decide)).trans ((if_neg (by decide)).trans ((if_neg (by decide)).trans ((if_neg (by decide)).trans (if_pos rfl))))))))), (if_neg (by decide)).trans ((if_neg (by decide)).trans ((if_neg (by decide)).trans ((if_neg (by decide)).trans ((if_neg (by decide)).trans ((if_neg (by decide)).trans ((if_neg (by decide)).trans ((if_neg (by decide)).trans ((if_neg (by decide)).trans ((if_neg (by decide)).trans (if_pos rfl)))))))))), (if_neg (by decide)).trans ((if_neg (by decide)).trans ((if_neg (by decide)).trans ((if_neg (by decide)).trans ((if_neg (by decide)).trans ((if_neg (by decide)).trans ((if_neg (by decide)).trans ((if_neg (by decide)).trans ((if_neg (by decide)).trans ((if_neg (by decide)).trans ((if_neg (by decide)).trans (if_pos rfl))))))))))), (if_neg (by decide)).trans ((if_neg (by decide)).trans ((if_neg (by decide)).trans ((if_neg (by decide)).trans ((if_neg (by decide)).trans ((if_neg (by decide)).trans ((if_neg (by decide)).trans ((if_neg (by decide)).trans ((if_neg (by decide)).trans ((if_neg (by decide)).trans ((if_neg (by decide)).trans ((if_neg (by decide)).trans (if_pos rfl)))))))))))), (if_neg (by decide)).trans ((if_neg (by decide)).trans ((if_neg (by decide)).trans ((if_neg (by decide)).trans ((if_neg (by decide)).trans ((if_neg (by decide)).trans ((if_neg (by decide)).trans ((if_neg (by decide)).trans ((if_neg (by decide)).trans ((if_neg (by decide)).trans ((if_neg (by decide)).trans ((if_neg (by decide)).trans ((if_neg (by decide)).trans (if_pos rfl))))))))))))), (if_neg (by decide)).trans ((if_neg (by decide)).trans ((if_neg (by decide)).trans ((if_neg (by decide)).trans ((if_neg (by decide)).trans ((if_neg (by decide)).trans ((if_neg (by decide)).trans ((if_neg (by decide)).trans ((if_neg (by decide)).trans ((if_neg (by decide)).trans ((if_neg (by decide)).trans ((if_neg (by decide)).trans ((if_neg (by decide)).trans ((if_neg (by decide)).trans (if_pos rfl)))))))))))))), (if_neg (by decide)).trans ((if_neg (by decide)).trans ((if_neg (by decide)).trans ((if_neg (by decide)).trans ((if_neg (by decide)).trans ((if_neg (by decide)).trans ((if_neg (by decide)).trans ((if_neg (by decide)).trans ((if_neg (by decide)).trans ((if_neg (by decide)).trans ((if_neg (by decide)).trans ((if_neg (by decide)).trans ((if_neg (by decide)).trans ((if_neg (by decide)).trans ((if_neg (by decide)).trans (if_pos rfl))))))))))))))), (if_neg (by decide)).trans ((if_neg (by decide)).trans ((if_neg (by decide)).trans ((if_neg (by decide)).trans ((if_neg (by decide)).trans ((if_neg (by decide)).trans ((if_neg (by decide)).trans ((if_neg (by decide)).trans ((if_neg (by decide)).trans ((if_neg (by decide)).trans ((if_neg (by decide)).trans ((if_neg (by decide)).trans ((if_neg (by decide)).trans ((if_neg (by decide)).trans ((if_neg (by decide)).trans ((if_neg (by decide)).trans (if_pos rfl)))))))))))))))), (if_neg (by decide)).trans ((if_neg (by decide)).trans ((if_neg (by decide)).trans ((if_neg (by decide)).trans ((if_neg (by decide)).trans ((if_neg (by decide)).trans ((if_neg (by decide)).trans ((if_neg (by decide)).trans ((if_neg (by decide)).trans ((if_neg (by decide)).trans ((if_neg (by decide)).trans ((if_neg (by decide)).trans ((if_neg (by decide)).trans ((if_neg (by decide)).trans ((if_neg (by decide)).trans ((if_neg (by decide)).trans ((if_neg (by decide)).trans (if_pos rfl))))))))))))))))), (if_neg (by decide)).trans ((if_neg (by decide)).trans ((if_neg (by decide)).trans ((if_neg (by decide)).trans ((if_neg (by decide)).trans ((if_neg (by decide)).trans ((if_neg (by decide)).trans ((if_neg (by decide)).trans ((if_neg (by decide)).trans ((if_neg (by decide)).trans ((if_neg (by decide)).trans ((if_neg (by decide)).trans ((if_neg (by decide)).trans ((if_neg (by decide)).trans ((if_neg (by decide)).trans ((if_neg (by decide)).trans ((if_neg (by decide)).trans ((if_neg (by decide)).trans (if_pos rfl)))))))))))))))))), (if_neg (by decide)).trans ((if_neg (by decide)).trans ((if_neg (by decide)).trans ((if_neg (by decide)).trans ((if_neg (by decide)).trans ((if_neg (by decide)).trans ((if_neg (by decide)).trans ((if_neg (by decide)).trans ((if_neg (by decide)).trans ((if_neg (by decide)).trans ((if_neg (by decide)).trans ((if_neg (by decide)).trans ((if_neg (by decide)).trans ((if_neg (by decide)).trans ((if_neg (by decide)).trans ((if_neg (by decide)).trans ((if_neg (by decide)).trans ((if_neg (by decide)).trans ((if_neg (by decide)).trans (if_pos rfl))))))))))))))))))), (if_neg (by decide)).trans ((if_neg (by decide)).trans ((if_neg (by decide)).trans ((if_neg (by decide)).trans ((if_neg (by decide)).trans ((if_neg (by decide)).trans ((if_neg (by decide)).trans ((if_neg (by decide)).trans ((if_neg (by decide)).trans ((if_neg (by decide)).trans ((if_neg (by decide)).trans ((if_neg (by decide)).trans ((if_neg (by decide)).trans ((if_neg (by decide)).trans ((if_neg (by decide)).trans ((if_neg (by decide)).trans ((if_neg (by decide)).trans ((if_neg (by decide)).trans ((if_neg (by decide)).trans ((if_neg (by decide)).trans (if_pos rfl)))))))))))))))))))), (if_neg (by decide)).trans ((if_neg (by decide)).trans ((if_neg (by decide)).trans ((if_neg (by decide)).trans ((if_neg (by decide)).trans ((if_neg (by decide)).trans ((if_neg (by decide)).trans ((if_neg (by decide)).trans ((if_neg (by decide)).trans ((if_neg (by decide)).trans ((if_neg (by decide)).trans ((if_neg (by decide)).trans ((if_neg (by decide)).trans ((if_neg (by decide)).trans ((if_neg (by decide)).trans ((if_neg (by decide)).trans ((if_neg (by decide)).trans ((if_neg (by decide)).trans ((if_neg (by decide)).trans ((if_neg (by decide)).trans ((if_neg (by decide)).trans (if_pos rfl))))))))))))))))))))), (if_neg (by decide)).trans ((if_neg (by decide)).trans ((if_neg (by decide)).trans ((if_neg (by decide)).trans ((if_neg (by decide)).trans ((if_neg (by decide)).trans ((if_neg (by decide)).trans ((if_neg (by decide)).trans ((if_neg (by decide)).trans ((if_neg (by decide)).trans ((if_neg (by decide)).trans ((if_neg (by decide)).trans ((if_neg (by decide)).trans ((if_neg (by decide)).trans ((if_neg (by decide)).trans ((if_neg (by decide)).trans ((if_neg (by decide)).trans ((if_neg (by decide)).trans ((if_neg (by decide)).trans ((if_neg (by decide)).trans ((if_neg (by decide)).trans ((if_neg (by decide)).trans (if_pos rfl)))))))))))))))))))))), (if_neg (by decide)).trans ((if_neg (by decide)).trans ((if_neg (by decide)).trans ((if_neg (by decide)).trans ((if_neg (by decide)).trans ((if_neg (by decide)).trans ((if_neg (by decide)).trans ((if_neg (by decide)).trans ((if_neg (by decide)).trans ((if_neg (by decide)).trans ((if_neg (by decide)).trans ((if_neg (by decide)).trans ((if_neg (by decide)).trans ((if_neg (by decide)).trans ((if_neg (by decide)).trans ((if_neg (by decide)).trans ((if_neg (by decide)).trans ((if_neg (by decide)).trans ((if_neg (by decide)).trans ((if_neg (by decide)).trans ((if_neg (by decide)).trans ((if_neg (by decide)).trans ((if_neg (by decide)).trans (if_pos rfl))))))))))))))))))))))), (if_neg (by decide)).trans ((if_neg (by decide)).trans ((if_neg (by decide)).trans ((if_neg (by decide)).trans ((if_neg (by decide)).trans ((if_neg (by decide)).trans ((if_neg (by decide)).trans ((if_neg (by decide)).trans ((if_neg (by decide)).trans ((if_neg (by decide)).trans ((if_neg (by decide)).trans ((if_neg (by decide)).trans ((if_neg (by decide)).trans ((if_neg (by decide)).trans ((if_neg (by decide)).trans ((if_neg (by decide)).trans ((if_neg (by decide)).trans ((if_neg (by decide)).trans ((if_neg (by decide)).trans ((if_neg (by decide)).trans ((if_neg (by decide)).trans ((if_neg (by decide)).trans ((if_neg (by decide)).trans ((if_neg (by decide)).trans (if_pos rfl))))))))))))))))))))))))⟩
  subst κ_World κ_Kind κ_Setup κ_BadSpan κ_BadPlan κ__can_add κ__can_drop κ__can_mirror_up κ__is_up κ__can_mirror_down κ__is_down κ__has_both κ__can_release κ__can_withdraw κ__can_grow κ__can_purge κ__add κ__drop κ__mirror_up κ__end_up κ__mirror_down κ__end_down κ__go_on κ__grow κ__purge
  have CT_World : ClsI K mg ⟨K, κ⟩ "World" "World" ["narrow", "wide", "columns", "programs"] := ⟨⟨⟨hpgWorld, hhdWorld, hpoWorld, hsaWorld⟩, fun f m => by
    simp only [List.mem_cons, List.not_mem_nil, or_false] at m
    rcases m with rfl | rfl | rfl | rfl
    · exact hnWorld_narrow
    · exact hnWorld_wide
    · exact hnWorld_columns
    · exact hnWorld_programs⟩, ⟨⟨hpgWorld, hhdWorld, hpoWorld, hsaWorld⟩, hx1World, heW4, heW5, hx4World, if_pos (beq_self_eq_true _)⟩, PySem.W.mg_of X G haCWorld⟩
  have CT_Kind : ClsI K mg ⟨K, κ⟩ "Kind" "Kind" ["low", "high", "size"] := ⟨⟨⟨hpgKind, hhdKind, hpoKind, hsaKind⟩, fun f m => by
    simp only [List.mem_cons, List.not_mem_nil, or_false] at m
    rcases m with rfl | rfl | rfl
    · exact hnKind_low
    · exact hnKind_high
    · exact hnKind_size⟩, ⟨⟨hpgKind, hhdKind, hpoKind, hsaKind⟩, hx1Kind, heW4, heW5, hx4Kind, if_pos (beq_self_eq_true _)⟩, PySem.W.mg_of X G haCKind⟩
  have CT_Setup : ClsI K mg ⟨K, κ⟩ "Setup" "Setup" ["world", "editions", "sides", "ups", "downs", "going", "span", "lasts"] := ⟨⟨⟨hpgSetup, hhdSetup, hpoSetup, hsaSetup⟩, fun f m => by
    simp only [List.mem_cons, List.not_mem_nil, or_false] at m
    rcases m with rfl | rfl | rfl | rfl | rfl | rfl | rfl | rfl
    · exact hnSetup_world
    · exact hnSetup_editions
    · exact hnSetup_sides
    · exact hnSetup_ups
    · exact hnSetup_downs
    · exact hnSetup_going
    · exact hnSetup_span
    · exact hnSetup_lasts⟩, ⟨⟨hpgSetup, hhdSetup, hpoSetup, hsaSetup⟩, hx1Setup, heW4, heW5, hx4Setup, if_pos (beq_self_eq_true _)⟩, PySem.W.mg_of X G haCSetup⟩
  have ek_BadSpan : ExcK K (κ "BadSpan") := ⟨by unfold PySem.W.clsIn; rw [he1BadSpan]; rfl, he3BadSpan, he4BadSpan, he7BadSpan, heaBadSpan, heW4, heW5, hebBadSpan, he9BadSpan⟩
  have EX_BadSpan : ExT K mg CW (κ "BadSpan") "BadSpan" "value" := { ox := ⟨⟨nmBadSpan, qBadSpan, NBadSpan, bsBadSpan, _, snBadSpan, subBadSpan, abBadSpan, colBadSpan, ddBadSpan, m0BadSpan, m1BadSpan, m2BadSpan, m3BadSpan, m5BadSpan, he1BadSpan, rfl⟩, he2BadSpan, he7BadSpan, he8BadSpan, he6BadSpan⟩, nf := hevBadSpanvalue, me := PySem.W.exm_ref heW1 heW2 heW3 heeBadSpan, kc := if_pos (beq_self_eq_true _), kv := kit_sub (by decide +kernel) hedBadSpan, g := PySem.W.mg_of X G he0BadSpan }
  have me_BadSpan : PySem.W.exmOne K (.ref (κ "BadSpan")) (.ref (κ "BadSpan")) = some true := PySem.W.exm_ref he7BadSpan he9BadSpan he8BadSpan hesBadSpan
  have cE_BadSpan : CalI l.prog w K mg base (κ "BadSpan") "value" P_BadSpan___init__ := ⟨fBadSpan___init__, _, haBadSpan___init__, hefBadSpan, ok_BadSpan FBadSpan___init__ EX_BadSpan, bBadSpan___init__⟩
  have ek_BadPlan : ExcK K (κ "BadPlan") := ⟨by unfold PySem.W.clsIn; rw [he1BadPlan]; rfl, he3BadPlan, he4BadPlan, he7BadPlan, heaBadPlan, heW4, heW5, hebBadPlan, he9BadPlan⟩
  have EX_BadPlan : ExT K mg CW (κ "BadPlan") "BadPlan" "index" := { ox := ⟨⟨nmBadPlan, qBadPlan, NBadPlan, bsBadPlan, _, snBadPlan, subBadPlan, abBadPlan, colBadPlan, ddBadPlan, m0BadPlan, m1BadPlan, m2BadPlan, m3BadPlan, m5BadPlan, he1BadPlan, rfl⟩, he2BadPlan, he7BadPlan, he8BadPlan, he6BadPlan⟩, nf := hevBadPlanindex, me := PySem.W.exm_ref heW1 heW2 heW3 heeBadPlan, kc := if_pos (beq_self_eq_true _), kv := kit_sub (by decide +kernel) hedBadPlan, g := PySem.W.mg_of X G he0BadPlan }
  have me_BadPlan : PySem.W.exmOne K (.ref (κ "BadPlan")) (.ref (κ "BadPlan")) = some true := PySem.W.exm_ref he7BadPlan he9BadPlan he8BadPlan hesBadPlan
  have cE_BadPlan : CalI l.prog w K mg base (κ "BadPlan") "index" P_BadPlan___init__ := ⟨fBadPlan___init__, _, haBadPlan___init__, hefBadPlan, ok_BadPlan FBadPlan___init__ EX_BadPlan, bBadPlan___init__⟩
  have gL_is_integer : FnOk l.prog w K mg base CX0 1 fis_integer _ P_is_integer (spD ⟨K, κ⟩ 1 L_is_integer) := ok_is_integer Fis_integer T 
  have cL_is_integer : Cal l.prog w K mg base 1 "is_integer" P_is_integer (spD ⟨K, κ⟩ 1 L_is_integer) := ⟨fis_integer, _, gL_is_integer, bis_integer, PySem.W.mg_of X G hais_integer, hkis_integer⟩
  have gL_is_between : FnOk l.prog w K mg base CX0 2 fis_between _ P_is_between (spD ⟨K, κ⟩ 3 L_is_between) := ok_is_between Fis_between T cL_is_integer
  have cL_is_between : Cal l.prog w K mg base 2 "is_between" P_is_between (spD ⟨K, κ⟩ 3 L_is_between) := ⟨fis_between, _, gL_is_between, bis_between, PySem.W.mg_of X G hais_between, hkis_between⟩
  have gL_lesser : FnOk l.prog w K mg base CX0 1 flesser _ P_lesser (spD ⟨K, κ⟩ 2 L_lesser) := ok_lesser Flesser T 
  have cL_lesser : Cal l.prog w K mg base 1 "lesser" P_lesser (spD ⟨K, κ⟩ 2 L_lesser) := ⟨flesser, _, gL_lesser, blesser, PySem.W.mg_of X G halesser, hklesser⟩
  have gL_greater : FnOk l.prog w K mg base CX0 1 fgreater _ P_greater (spD ⟨K, κ⟩ 2 L_greater) := ok_greater Fgreater T 
  have cL_greater : Cal l.prog w K mg base 1 "greater" P_greater (spD ⟨K, κ⟩ 2 L_greater) := ⟨fgreater, _, gL_greater, bgreater, PySem.W.mg_of X G hagreater, hkgreater⟩
  have gL_is_name : FnOk l.prog w K mg base CX0 1 fis_name _ P_is_name (spD ⟨K, κ⟩ 1 L_is_name) := ok_is_name Fis_name T TN 
  have cL_is_name : Cal l.prog w K mg base 1 "is_name" P_is_name (spD ⟨K, κ⟩ 1 L_is_name) := ⟨fis_name, _, gL_is_name, bis_name, PySem.W.mg_of X G hais_name, hkis_name⟩
  have gL_is_tuple_of : FnOk l.prog w K mg base CX0 1 fis_tuple_of _ P_is_tuple_of (spD ⟨K, κ⟩ 3 L_is_tuple_of) := ok_is_tuple_of Fis_tuple_of T 
  have cL_is_tuple_of : Cal l.prog w K mg base 1 "is_tuple_of" P_is_tuple_of (spD ⟨K, κ⟩ 3 L_is_tuple_of) := ⟨fis_tuple_of, _, gL_is_tuple_of, bis_tuple_of, PySem.W.mg_of X G hais_tuple_of, hkis_tuple_of⟩
  have gL_is_ascending : FnOk l.prog w K mg base CX0 1 fis_ascending _ P_is_ascending (spD ⟨K, κ⟩ 1 L_is_ascending) := ok_is_ascending Fis_ascending T 
  have cL_is_ascending : Cal l.prog w K mg base 1 "is_ascending" P_is_ascending (spD ⟨K, κ⟩ 1 L_is_ascending) := ⟨fis_ascending, _, gL_is_ascending, bis_ascending, PySem.W.mg_of X G hais_ascending, hkis_ascending⟩
  have gL_is_ascendingT : FnOk l.prog w K mg base CX0 1 fis_ascending _ P_is_ascending (spD ⟨K, κ⟩ 1 L_is_ascendingT) := ok_is_ascendingT Fis_ascending T 
  have cL_is_ascendingT : Cal l.prog w K mg base 1 "is_ascending" P_is_ascending (spD ⟨K, κ⟩ 1 L_is_ascendingT) := ⟨fis_ascending, _, gL_is_ascendingT, bis_ascending, PySem.W.mg_of X G hais_ascending, hkis_ascending⟩
  have gL_is_count : FnOk l.prog w K mg base CX0 2 fis_count _ P_is_count (spD ⟨K, κ⟩ 1 L_is_count) := ok_is_count Fis_count T cL_is_integer
  have cL_is_count : Cal l.prog w K mg base 2 "is_count" P_is_count (spD ⟨K, κ⟩ 1 L_is_count) := ⟨fis_count, _, gL_is_count, bis_count, PySem.W.mg_of X G hais_count, hkis_count⟩
  have gL_is_plain_part : FnOk l.prog w K mg base CX0 3 fis_plain_part _ P_is_plain_part (spD ⟨K, κ⟩ 2 L_is_plain_part) := ok_is_plain_part Fis_plain_part T GT_SIDES GT_RULES GT_MANNERS cL_is_integer cL_is_count
  have cL_is_plain_part : Cal l.prog w K mg base 3 "is_plain_part" P_is_plain_part (spD ⟨K, κ⟩ 2 L_is_plain_part) := ⟨fis_plain_part, _, gL_is_plain_part, bis_plain_part, PySem.W.mg_of X G hais_plain_part, hkis_plain_part⟩
  have gL__first_word : FnOk l.prog w K mg base CX0 1 f_first_word _ P__first_word (spD ⟨K, κ⟩ 1 L__first_word) := ok__first_word F_first_word T 
  have cL__first_word : Cal l.prog w K mg base 1 "_first_word" P__first_word (spD ⟨K, κ⟩ 1 L__first_word) := ⟨f_first_word, _, gL__first_word, b_first_word, PySem.W.mg_of X G ha_first_word, hk_first_word⟩
  have gL_step_form : FnOk l.prog w K mg base CX0 2 fstep_form _ P_step_form (spD ⟨K, κ⟩ 1 L_step_form) := ok_step_form Fstep_form T KT_STEP_FORMS cL__first_word
  have cL_step_form : Cal l.prog w K mg base 2 "step_form" P_step_form (spD ⟨K, κ⟩ 1 L_step_form) := ⟨fstep_form, _, gL_step_form, bstep_form, PySem.W.mg_of X G hastep_form, hkstep_form⟩
  have gL_other_side : FnOk l.prog w K mg base CX0 1 fother_side _ P_other_side (spD ⟨K, κ⟩ 1 L_other_side) := ok_other_side Fother_side T 
  have cL_other_side : Cal l.prog w K mg base 1 "other_side" P_other_side (spD ⟨K, κ⟩ 1 L_other_side) := ⟨fother_side, _, gL_other_side, bother_side, PySem.W.mg_of X G haother_side, hkother_side⟩
  have gL_editions_of : FnOk l.prog w K mg base CX0 1 feditions_of _ P_editions_of (spD ⟨K, κ⟩ 2 L_editions_of) := ok_editions_of Feditions_of T CT_World
  have cL_editions_of : Cal l.prog w K mg base 1 "editions_of" P_editions_of (spD ⟨K, κ⟩ 2 L_editions_of) := ⟨feditions_of, _, gL_editions_of, beditions_of, PySem.W.mg_of X G haeditions_of, hkeditions_of⟩
  have gL_is_span : FnOk l.prog w K mg base CX0 2 fis_span _ P_is_span (spD ⟨K, κ⟩ 1 L_is_span) := ok_is_span Fis_span T cL_is_integer
  have cL_is_span : Cal l.prog w K mg base 2 "is_span" P_is_span (spD ⟨K, κ⟩ 1 L_is_span) := ⟨fis_span, _, gL_is_span, bis_span, PySem.W.mg_of X G hais_span, hkis_span⟩
  have gL_Kind___init__ : FnOk l.prog w K mg base CX0 2 fKind___init__ _ P_Kind___init__ (spD ⟨K, κ⟩ 3 L_Kind___init__) := ok_Kind___init__ FKind___init__ T cL_is_integer CT_Kind
  have cL_Kind___init__ : MkI l.prog w K mg base ⟨K, κ⟩ 2 "Kind" "Kind" P_Kind___init__ (spD ⟨K, κ⟩ 3 L_Kind___init__) := ⟨fKind___init__, _, ⟨hmkKind, haKind___init__, hiKind___init__, hkcKind⟩, gL_Kind___init__, bKind___init__, CT_Kind.g⟩
  have gL_Kind___contains__ : FnOk l.prog w K mg base CX0 3 fKind___contains__ _ P_Kind___contains__ (spD ⟨K, κ⟩ 2 L_Kind___contains__) := ok_Kind___contains__ FKind___contains__ T cL_is_between CT_Kind
  have cL_Kind___contains__ : MeI l.prog w K mg base ⟨K, κ⟩ 3 "Kind" "__contains__" P_Kind___contains__ (spD ⟨K, κ⟩ 2 L_Kind___contains__) := ⟨fKind___contains__, _, ⟨haKind___contains__, hiKind___contains__, hkKind___contains__⟩, gL_Kind___contains__, bKind___contains__⟩
  have gL_Kind___le__ : FnOk l.prog w K mg base CX0 1 fKind___le__ _ P_Kind___le__ (spD ⟨K, κ⟩ 2 L_Kind___le__) := ok_Kind___le__ FKind___le__ T CT_Kind
  have cL_Kind___le__ : MeI l.prog w K mg base ⟨K, κ⟩ 1 "Kind" "__le__" P_Kind___le__ (spD ⟨K, κ⟩ 2 L_Kind___le__) := ⟨fKind___le__, _, ⟨haKind___le__, hiKind___le__, hkKind___le__⟩, gL_Kind___le__, bKind___le__⟩
  have gL_Kind___eq__ : FnOk l.prog w K mg base CX0 1 fKind___eq__ _ P_Kind___eq__ (spD ⟨K, κ⟩ 2 L_Kind___eq__) := ok_Kind___eq__ FKind___eq__ T CT_Kind
  have cL_Kind___eq__ : MeI l.prog w K mg base ⟨K, κ⟩ 1 "Kind" "__eq__" P_Kind___eq__ (spD ⟨K, κ⟩ 2 L_Kind___eq__) := ⟨fKind___eq__, _, ⟨haKind___eq__, hiKind___eq__, hkKind___eq__⟩, gL_Kind___eq__, bKind___eq__⟩
  have gL_Kind___lt__ : FnOk l.prog w K mg base CX0 2 fKind___lt__ _ P_Kind___lt__ (spD ⟨K, κ⟩ 2 L_Kind___lt__) := ok_Kind___lt__ FKind___lt__ T CT_Kind cL_Kind___le__ cL_Kind___eq__
  have cL_Kind___lt__ : MeI l.prog w K mg base ⟨K, κ⟩ 2 "Kind" "__lt__" P_Kind___lt__ (spD ⟨K, κ⟩ 2 L_Kind___lt__) := ⟨fKind___lt__, _, ⟨haKind___lt__, hiKind___lt__, hkKind___lt__⟩, gL_Kind___lt__, bKind___lt__⟩
  have gL__are_none_or_many : FnOk l.prog w K mg base CX0 1 f_are_none_or_many _ P__are_none_or_many (spD ⟨K, κ⟩ 1 L__are_none_or_many) := ok__are_none_or_many F_are_none_or_many T TN 
  have cL__are_none_or_many : Cal l.prog w K mg base 1 "_are_none_or_many" P__are_none_or_many (spD ⟨K, κ⟩ 1 L__are_none_or_many) := ⟨f_are_none_or_many, _, gL__are_none_or_many, b_are_none_or_many, PySem.W.mg_of X G ha_are_none_or_many, hk_are_none_or_many⟩
  have gL_is_fit : FnOk l.prog w K mg base CX0 4 fis_fit _ P_is_fit (spD ⟨K, κ⟩ 2 L_is_fit) := ok_is_fit Fis_fit T cL_is_span CT_World CT_Kind cL_Kind___contains__ cL_lesser cL_greater cL__are_none_or_many
  have cL_is_fit : Cal l.prog w K mg base 4 "is_fit" P_is_fit (spD ⟨K, κ⟩ 2 L_is_fit) := ⟨fis_fit, _, gL_is_fit, bis_fit, PySem.W.mg_of X G hais_fit, hkis_fit⟩
  have gL__are_kinds : FnOk l.prog w K mg base CX0 3 f_are_kinds _ P__are_kinds (spD ⟨K, κ⟩ 2 L__are_kinds) := ok__are_kinds F_are_kinds T TN CT_Kind cL_Kind___lt__
  have cL__are_kinds : Cal l.prog w K mg base 3 "_are_kinds" P__are_kinds (spD ⟨K, κ⟩ 2 L__are_kinds) := ⟨f_are_kinds, _, gL__are_kinds, b_are_kinds, PySem.W.mg_of X G ha_are_kinds, hk_are_kinds⟩
  have gL__are_columns : FnOk l.prog w K mg base CX0 2 f_are_columns _ P__are_columns (spD ⟨K, κ⟩ 1 L__are_columns) := ok__are_columns F_are_columns T cL_is_tuple_of cL_is_name cL_is_ascendingT
  have cL__are_columns : Cal l.prog w K mg base 2 "_are_columns" P__are_columns (spD ⟨K, κ⟩ 1 L__are_columns) := ⟨f_are_columns, _, gL__are_columns, b_are_columns, PySem.W.mg_of X G ha_are_columns, hk_are_columns⟩
  have gL__are_rows : FnOk l.prog w K mg base CX0 2 f_are_rows _ P__are_rows (spD ⟨K, κ⟩ 3 L__are_rows) := ok__are_rows F_are_rows T cL_is_tuple_of cL_is_ascending
  have cL__are_rows : Cal l.prog w K mg base 2 "_are_rows" P__are_rows (spD ⟨K, κ⟩ 3 L__are_rows) := ⟨f_are_rows, _, gL__are_rows, b_are_rows, PySem.W.mg_of X G ha_are_rows, hk_are_rows⟩
  have gL__is_read : FnOk l.prog w K mg base CX0 2 f_is_read _ P__is_read (spD ⟨K, κ⟩ 1 L__is_read) := ok__is_read F_is_read T GT_DEEDS GT_READ_SIDES cL_is_ascendingT
  have cL__is_read : Cal l.prog w K mg base 2 "_is_read" P__is_read (spD ⟨K, κ⟩ 1 L__is_read) := ⟨f_is_read, _, gL__is_read, b_is_read, PySem.W.mg_of X G ha_is_read, hk_is_read⟩
  have gL__is_write : FnOk l.prog w K mg base CX0 3 f_is_write _ P__is_write (spD ⟨K, κ⟩ 2 L__is_write) := ok__is_write F_is_write T GT_RULES GT_HOWS TN cL_is_between
  have cL__is_write : Cal l.prog w K mg base 3 "_is_write" P__is_write (spD ⟨K, κ⟩ 2 L__is_write) := ⟨f_is_write, _, gL__is_write, b_is_write, PySem.W.mg_of X G ha_is_write, hk_is_write⟩
  have gL__is_edition : FnOk l.prog w K mg base CX0 4 f_is_edition _ P__is_edition (spD ⟨K, κ⟩ 2 L__is_edition) := ok__is_edition F_is_edition T GT_SIDES cL_is_tuple_of cL__are_rows cL__is_read cL__is_write
  have cL__is_edition : Cal l.prog w K mg base 4 "_is_edition" P__is_edition (spD ⟨K, κ⟩ 2 L__is_edition) := ⟨f_is_edition, _, gL__is_edition, b_is_edition, PySem.W.mg_of X G ha_is_edition, hk_is_edition⟩
  have gL__is_first_edition : FnOk l.prog w K mg base CX0 1 f_is_first_edition _ P__is_first_edition (spD ⟨K, κ⟩ 1 L__is_first_edition) := ok__is_first_edition F_is_first_edition T 
  have cL__is_first_edition : Cal l.prog w K mg base 1 "_is_first_edition" P__is_first_edition (spD ⟨K, κ⟩ 1 L__is_first_edition) := ⟨f_is_first_edition, _, gL__is_first_edition, b_is_first_edition, PySem.W.mg_of X G ha_is_first_edition, hk_is_first_edition⟩
  have gL__is_program : FnOk l.prog w K mg base CX0 5 f_is_program _ P__is_program (spD ⟨K, κ⟩ 2 L__is_program) := ok__is_program F_is_program T cL_is_tuple_of cL_is_name cL__is_edition cL__is_first_edition
  have cL__is_program : Cal l.prog w K mg base 5 "_is_program" P__is_program (spD ⟨K, κ⟩ 2 L__is_program) := ⟨f_is_program, _, gL__is_program, b_is_program, PySem.W.mg_of X G ha_is_program, hk_is_program⟩
  have gL__many_in_two_events : FnOk l.prog w K mg base CX0 1 f_many_in_two_events _ P__many_in_two_events (spD ⟨K, κ⟩ 1 L__many_in_two_events) := ok__many_in_two_events F_many_in_two_events T GT_IN_TWO_EVENTS 
  have cL__many_in_two_events : Cal l.prog w K mg base 1 "_many_in_two_events" P__many_in_two_events (spD ⟨K, κ⟩ 1 L__many_in_two_events) := ⟨f_many_in_two_events, _, gL__many_in_two_events, b_many_in_two_events, PySem.W.mg_of X G ha_many_in_two_events, hk_many_in_two_events⟩
  have gL__are_programs : FnOk l.prog w K mg base CX0 6 f_are_programs _ P__are_programs (spD ⟨K, κ⟩ 2 L__are_programs) := ok__are_programs F_are_programs T TN cL_is_tuple_of cL__is_program cL_is_ascending cL__many_in_two_events
  have cL__are_programs : Cal l.prog w K mg base 6 "_are_programs" P__are_programs (spD ⟨K, κ⟩ 2 L__are_programs) := ⟨f_are_programs, _, gL__are_programs, b_are_programs, PySem.W.mg_of X G ha_are_programs, hk_are_programs⟩
  have gL_World___init__ : FnOk l.prog w K mg base CX0 7 fWorld___init__ _ P_World___init__ (spD ⟨K, κ⟩ 5 L_World___init__) := ok_World___init__ FWorld___init__ T cL__are_kinds cL__are_columns cL__are_programs CT_World
  have cL_World___init__ : MkI l.prog w K mg base ⟨K, κ⟩ 7 "World" "World" P_World___init__ (spD ⟨K, κ⟩ 5 L_World___init__) := ⟨fWorld___init__, _, ⟨hmkWorld, haWorld___init__, hiWorld___init__, hkcWorld⟩, gL_World___init__, bWorld___init__, CT_World.g⟩
  have gL_Setup___init__ : FnOk l.prog w K mg base CX0 1 fSetup___init__ _ P_Setup___init__ (spD ⟨K, κ⟩ 3 L_Setup___init__) := ok_Setup___init__ FSetup___init__ T CT_Setup CT_World
  have cL_Setup___init__ : MkI l.prog w K mg base ⟨K, κ⟩ 1 "Setup" "Setup" P_Setup___init__ (spD ⟨K, κ⟩ 3 L_Setup___init__) := ⟨fSetup___init__, _, ⟨hmkSetup, haSetup___init__, hiSetup___init__, hkcSetup⟩, gL_Setup___init__, bSetup___init__, CT_Setup.g⟩
  have gL__twin : FnOk l.prog w K mg base CX0 3 f_twin _ P__twin (spD ⟨K, κ⟩ 1 L__twin) := ok__twin F_twin T cL_Setup___init__ CT_Setup
  have cL__twin : Cal l.prog w K mg base 3 "_twin" P__twin (spD ⟨K, κ⟩ 1 L__twin) := ⟨f_twin, _, gL__twin, b_twin, PySem.W.mg_of X G ha_twin, hk_twin⟩
  have gL__running : FnOk l.prog w K mg base CX0 1 f_running _ P__running (spD ⟨K, κ⟩ 2 L__running) := ok__running F_running T CT_Setup
  have cL__running : Cal l.prog w K mg base 1 "_running" P__running (spD ⟨K, κ⟩ 2 L__running) := ⟨f_running, _, gL__running, b_running, PySem.W.mg_of X G ha_running, hk_running⟩
  have gL__has_both : FnOk l.prog w K mg base CX0 1 (κ "_has_both") _ P__has_both (spD ⟨K, κ⟩ 2 L__has_both) := ok__has_both F_has_both T CT_Setup
  have cL__has_both : Cal l.prog w K mg base 1 "_has_both" P__has_both (spD ⟨K, κ⟩ 2 L__has_both) := ⟨(κ "_has_both"), _, gL__has_both, b_has_both, PySem.W.mg_of X G ha_has_both, hk_has_both⟩
  have gL__can_add : FnOk l.prog w K mg base CX0 1 (κ "_can_add") _ P__can_add (spD ⟨K, κ⟩ 2 L__can_add) := ok__can_add F_can_add T CT_Setup
  have cL__can_add : Cal l.prog w K mg base 1 "_can_add" P__can_add (spD ⟨K, κ⟩ 2 L__can_add) := ⟨(κ "_can_add"), _, gL__can_add, b_can_add, PySem.W.mg_of X G ha_can_add, hk_can_add⟩
  have gL__add : FnOk l.prog w K mg base CX0 1 (κ "_add") _ P__add (spD ⟨K, κ⟩ 2 L__add) := ok__add F_add T CT_Setup
  have cL__add : Cal l.prog w K mg base 1 "_add" P__add (spD ⟨K, κ⟩ 2 L__add) := ⟨(κ "_add"), _, gL__add, b_add, PySem.W.mg_of X G ha_add, hk_add⟩
  have gL__can_drop : FnOk l.prog w K mg base CX0 2 (κ "_can_drop") _ P__can_drop (spD ⟨K, κ⟩ 2 L__can_drop) := ok__can_drop F_can_drop T cL__has_both CT_Setup
  have cL__can_drop : Cal l.prog w K mg base 2 "_can_drop" P__can_drop (spD ⟨K, κ⟩ 2 L__can_drop) := ⟨(κ "_can_drop"), _, gL__can_drop, b_can_drop, PySem.W.mg_of X G ha_can_drop, hk_can_drop⟩
  have gL__drop : FnOk l.prog w K mg base CX0 2 (κ "_drop") _ P__drop (spD ⟨K, κ⟩ 2 L__drop) := ok__drop F_drop T cL_other_side CT_Setup
  have cL__drop : Cal l.prog w K mg base 2 "_drop" P__drop (spD ⟨K, κ⟩ 2 L__drop) := ⟨(κ "_drop"), _, gL__drop, b_drop, PySem.W.mg_of X G ha_drop, hk_drop⟩
  have gL__can_mirror_up : FnOk l.prog w K mg base CX0 2 (κ "_can_mirror_up") _ P__can_mirror_up (spD ⟨K, κ⟩ 2 L__can_mirror_up) := ok__can_mirror_up F_can_mirror_up T cL__has_both CT_Setup
  have cL__can_mirror_up : Cal l.prog w K mg base 2 "_can_mirror_up" P__can_mirror_up (spD ⟨K, κ⟩ 2 L__can_mirror_up) := ⟨(κ "_can_mirror_up"), _, gL__can_mirror_up, b_can_mirror_up, PySem.W.mg_of X G ha_can_mirror_up, hk_can_mirror_up⟩
  have gL__mirror_up : FnOk l.prog w K mg base CX0 1 (κ "_mirror_up") _ P__mirror_up (spD ⟨K, κ⟩ 2 L__mirror_up) := ok__mirror_up F_mirror_up T CT_Setup
  have cL__mirror_up : Cal l.prog w K mg base 1 "_mirror_up" P__mirror_up (spD ⟨K, κ⟩ 2 L__mirror_up) := ⟨(κ "_mirror_up"), _, gL__mirror_up, b_mirror_up, PySem.W.mg_of X G ha_mirror_up, hk_mirror_up⟩
  have gL__is_up : FnOk l.prog w K mg base CX0 1 (κ "_is_up") _ P__is_up (spD ⟨K, κ⟩ 2 L__is_up) := ok__is_up F_is_up T CT_Setup
  have cL__is_up : Cal l.prog w K mg base 1 "_is_up" P__is_up (spD ⟨K, κ⟩ 2 L__is_up) := ⟨(κ "_is_up"), _, gL__is_up, b_is_up, PySem.W.mg_of X G ha_is_up, hk_is_up⟩
  have gL__end_up : FnOk l.prog w K mg base CX0 1 (κ "_end_up") _ P__end_up (spD ⟨K, κ⟩ 2 L__end_up) := ok__end_up F_end_up T CT_Setup
  have cL__end_up : Cal l.prog w K mg base 1 "_end_up" P__end_up (spD ⟨K, κ⟩ 2 L__end_up) := ⟨(κ "_end_up"), _, gL__end_up, b_end_up, PySem.W.mg_of X G ha_end_up, hk_end_up⟩
  have gL__can_mirror_down : FnOk l.prog w K mg base CX0 2 (κ "_can_mirror_down") _ P__can_mirror_down (spD ⟨K, κ⟩ 2 L__can_mirror_down) := ok__can_mirror_down F_can_mirror_down T cL__has_both CT_Setup
  have cL__can_mirror_down : Cal l.prog w K mg base 2 "_can_mirror_down" P__can_mirror_down (spD ⟨K, κ⟩ 2 L__can_mirror_down) := ⟨(κ "_can_mirror_down"), _, gL__can_mirror_down, b_can_mirror_down, PySem.W.mg_of X G ha_can_mirror_down, hk_can_mirror_down⟩
  have gL__mirror_down : FnOk l.prog w K mg base CX0 1 (κ "_mirror_down") _ P__mirror_down (spD ⟨K, κ⟩ 2 L__mirror_down) := ok__mirror_down F_mirror_down T CT_Setup
  have cL__mirror_down : Cal l.prog w K mg base 1 "_mirror_down" P__mirror_down (spD ⟨K, κ⟩ 2 L__mirror_down) := ⟨(κ "_mirror_down"), _, gL__mirror_down, b_mirror_down, PySem.W.mg_of X G ha_mirror_down, hk_mirror_down⟩
  have gL__is_down : FnOk l.prog w K mg base CX0 1 (κ "_is_down") _ P__is_down (spD ⟨K, κ⟩ 2 L__is_down) := ok__is_down F_is_down T CT_Setup
  have cL__is_down : Cal l.prog w K mg base 1 "_is_down" P__is_down (spD ⟨K, κ⟩ 2 L__is_down) := ⟨(κ "_is_down"), _, gL__is_down, b_is_down, PySem.W.mg_of X G ha_is_down, hk_is_down⟩
  have gL__end_down : FnOk l.prog w K mg base CX0 1 (κ "_end_down") _ P__end_down (spD ⟨K, κ⟩ 2 L__end_down) := ok__end_down F_end_down T CT_Setup
  have cL__end_down : Cal l.prog w K mg base 1 "_end_down" P__end_down (spD ⟨K, κ⟩ 2 L__end_down) := ⟨(κ "_end_down"), _, gL__end_down, b_end_down, PySem.W.mg_of X G ha_end_down, hk_end_down⟩
  have gL__can_release : FnOk l.prog w K mg base CX0 2 (κ "_can_release") _ P__can_release (spD ⟨K, κ⟩ 2 L__can_release) := ok__can_release F_can_release T CT_Setup cL_editions_of
  have cL__can_release : Cal l.prog w K mg base 2 "_can_release" P__can_release (spD ⟨K, κ⟩ 2 L__can_release) := ⟨(κ "_can_release"), _, gL__can_release, b_can_release, PySem.W.mg_of X G ha_can_release, hk_can_release⟩
  have gL__can_withdraw : FnOk l.prog w K mg base CX0 1 (κ "_can_withdraw") _ P__can_withdraw (spD ⟨K, κ⟩ 2 L__can_withdraw) := ok__can_withdraw F_can_withdraw T CT_Setup
  have cL__can_withdraw : Cal l.prog w K mg base 1 "_can_withdraw" P__can_withdraw (spD ⟨K, κ⟩ 2 L__can_withdraw) := ⟨(κ "_can_withdraw"), _, gL__can_withdraw, b_can_withdraw, PySem.W.mg_of X G ha_can_withdraw, hk_can_withdraw⟩
  have gL__go_on : FnOk l.prog w K mg base CX0 1 (κ "_go_on") _ P__go_on (spD ⟨K, κ⟩ 2 L__go_on) := ok__go_on F_go_on T CT_Setup
  have cL__go_on : Cal l.prog w K mg base 1 "_go_on" P__go_on (spD ⟨K, κ⟩ 2 L__go_on) := ⟨(κ "_go_on"), _, gL__go_on, b_go_on, PySem.W.mg_of X G ha_go_on, hk_go_on⟩
  have gL__can_grow : FnOk l.prog w K mg base CX0 5 (κ "_can_grow") _ P__can_grow (spD ⟨K, κ⟩ 2 L__can_grow) := ok__can_grow F_can_grow T CT_Setup cL_is_fit
  have cL__can_grow : Cal l.prog w K mg base 5 "_can_grow" P__can_grow (spD ⟨K, κ⟩ 2 L__can_grow) := ⟨(κ "_can_grow"), _, gL__can_grow, b_can_grow, PySem.W.mg_of X G ha_can_grow, hk_can_grow⟩
  have gL__grow : FnOk l.prog w K mg base CX0 1 (κ "_grow") _ P__grow (spD ⟨K, κ⟩ 2 L__grow) := ok__grow F_grow T CT_Setup
  have cL__grow : Cal l.prog w K mg base 1 "_grow" P__grow (spD ⟨K, κ⟩ 2 L__grow) := ⟨(κ "_grow"), _, gL__grow, b_grow, PySem.W.mg_of X G ha_grow, hk_grow⟩
  have gL__can_purge : FnOk l.prog w K mg base CX0 5 (κ "_can_purge") _ P__can_purge (spD ⟨K, κ⟩ 2 L__can_purge) := ok__can_purge F_can_purge T CT_Setup cL_is_fit
  have cL__can_purge : Cal l.prog w K mg base 5 "_can_purge" P__can_purge (spD ⟨K, κ⟩ 2 L__can_purge) := ⟨(κ "_can_purge"), _, gL__can_purge, b_can_purge, PySem.W.mg_of X G ha_can_purge, hk_can_purge⟩
  have gL__purge : FnOk l.prog w K mg base CX0 1 (κ "_purge") _ P__purge (spD ⟨K, κ⟩ 2 L__purge) := ok__purge F_purge T CT_Setup
  have cL__purge : Cal l.prog w K mg base 1 "_purge" P__purge (spD ⟨K, κ⟩ 2 L__purge) := ⟨(κ "_purge"), _, gL__purge, b_purge, PySem.W.mg_of X G ha_purge, hk_purge⟩
  have HT_POSSIBLE : ∀ f sp, RT ⟨K, κ⟩ 2 T_POSSIBLE f sp → Held l.prog w K mg base 5 f sp := held_cons (Z := ⟨K, κ⟩) (c := "_can_add") gL__can_add (by decide) hk_can_add b_can_add (held_cons (Z := ⟨K, κ⟩) (c := "_can_drop") gL__can_drop (by decide) hk_can_drop b_can_drop (held_cons (Z := ⟨K, κ⟩) (c := "_can_mirror_up") gL__can_mirror_up (by decide) hk_can_mirror_up b_can_mirror_up (held_cons (Z := ⟨K, κ⟩) (c := "_is_up") gL__is_up (by decide) hk_is_up b_is_up (held_cons (Z := ⟨K, κ⟩) (c := "_can_mirror_down") gL__can_mirror_down (by decide) hk_can_mirror_down b_can_mirror_down (held_cons (Z := ⟨K, κ⟩) (c := "_is_down") gL__is_down (by decide) hk_is_down b_is_down (held_cons (Z := ⟨K, κ⟩) (c := "_has_both") gL__has_both (by decide) hk_has_both b_has_both (held_cons (Z := ⟨K, κ⟩) (c := "_can_release") gL__can_release (by decide) hk_can_release b_can_release (held_cons (Z := ⟨K, κ⟩) (c := "_can_withdraw") gL__can_withdraw (by decide) hk_can_withdraw b_can_withdraw (held_cons (Z := ⟨K, κ⟩) (c := "_can_grow") gL__can_grow (by decide) hk_can_grow b_can_grow (held_cons (Z := ⟨K, κ⟩) (c := "_can_purge") gL__can_purge (by decide) hk_can_purge b_can_purge (held_nil)))))))))))
  have FD_POSSIBLE : FDict ⟨K, κ⟩ w mg "POSSIBLE" a_POSSIBLE t_POSSIBLE := ⟨PySem.W.mg_of X G hw0POSSIBLE, kds_cons (kdW_of hw1POSSIBLE hw2POSSIBLE0) (kds_cons (kdW_of hw1POSSIBLE hw2POSSIBLE1) (kds_cons (kdW_of hw1POSSIBLE hw2POSSIBLE2) (kds_cons (kdW_of hw1POSSIBLE hw2POSSIBLE3) (kds_cons (kdW_of hw1POSSIBLE hw2POSSIBLE4) (kds_cons (kdW_of hw1POSSIBLE hw2POSSIBLE5) (kds_cons (kdW_of hw1POSSIBLE hw2POSSIBLE6) (kds_cons (kdW_of hw1POSSIBLE hw2POSSIBLE7) (kds_cons (kdW_of hw1POSSIBLE hw2POSSIBLE8) (kds_cons (kdW_of hw1POSSIBLE hw2POSSIBLE9) (kds_cons (kdW_of hw1POSSIBLE hw2POSSIBLE10) (kds_cons (kdW_of hw1POSSIBLE hw2POSSIBLE11) (kds_nil))))))))))))⟩
  have HT_CHANGES : ∀ f sp, RT ⟨K, κ⟩ 2 T_CHANGES f sp → Held l.prog w K mg base 2 f sp := held_cons (Z := ⟨K, κ⟩) (c := "_add") gL__add (by decide) hk_add b_add (held_cons (Z := ⟨K, κ⟩) (c := "_drop") gL__drop (by decide) hk_drop b_drop (held_cons (Z := ⟨K, κ⟩) (c := "_mirror_up") gL__mirror_up (by decide) hk_mirror_up b_mirror_up (held_cons (Z := ⟨K, κ⟩) (c := "_end_up") gL__end_up (by decide) hk_end_up b_end_up (held_cons (Z := ⟨K, κ⟩) (c := "_mirror_down") gL__mirror_down (by decide) hk_mirror_down b_mirror_down (held_cons (Z := ⟨K, κ⟩) (c := "_end_down") gL__end_down (by decide) hk_end_down b_end_down (held_cons (Z := ⟨K, κ⟩) (c := "_go_on") gL__go_on (by decide) hk_go_on b_go_on (held_cons (Z := ⟨K, κ⟩) (c := "_grow") gL__grow (by decide) hk_grow b_grow (held_cons (Z := ⟨K, κ⟩) (c := "_purge") gL__purge (by decide) hk_purge b_purge (held_nil)))))))))
  have FD_CHANGES : FDict ⟨K, κ⟩ w mg "CHANGES" a_CHANGES t_CHANGES := ⟨PySem.W.mg_of X G hw0CHANGES, kds_cons (kdW_of hw1CHANGES hw2CHANGES0) (kds_cons (kdW_of hw1CHANGES hw2CHANGES1) (kds_cons (kdW_of hw1CHANGES hw2CHANGES2) (kds_cons (kdW_of hw1CHANGES hw2CHANGES3) (kds_cons (kdW_of hw1CHANGES hw2CHANGES4) (kds_cons (kdW_of hw1CHANGES hw2CHANGES5) (kds_cons (kdW_of hw1CHANGES hw2CHANGES6) (kds_cons (kdW_of hw1CHANGES hw2CHANGES7) (kds_cons (kdW_of hw1CHANGES hw2CHANGES8) (kds_cons (kdW_of hw1CHANGES hw2CHANGES9) (kds_cons (kdW_of hw1CHANGES hw2CHANGES10) (kds_cons (kdW_of hw1CHANGES hw2CHANGES11) (kds_nil))))))))))))⟩
  have gL_Setup_behind_begin : FnOk l.prog w K mg base CX0 6 fSetup_behind_begin _ P_Setup_behind_begin (spD ⟨K, κ⟩ 2 L_Setup_behind_begin) := ok_Setup_behind_begin FSetup_behind_begin T FD_POSSIBLE CT_Setup HT_POSSIBLE cL__twin FD_CHANGES HT_CHANGES
  have cL_Setup_behind_begin : MeI l.prog w K mg base ⟨K, κ⟩ 6 "Setup" "behind_begin" P_Setup_behind_begin (spD ⟨K, κ⟩ 2 L_Setup_behind_begin) := ⟨fSetup_behind_begin, _, ⟨haSetup_behind_begin, hiSetup_behind_begin, hkSetup_behind_begin⟩, gL_Setup_behind_begin, bSetup_behind_begin⟩
  have gL_Setup_behind_end : FnOk l.prog w K mg base CX0 4 fSetup_behind_end _ P_Setup_behind_end (spD ⟨K, κ⟩ 1 L_Setup_behind_end) := ok_Setup_behind_end FSetup_behind_end T cL__twin CT_Setup
  have cL_Setup_behind_end : MeI l.prog w K mg base ⟨K, κ⟩ 4 "Setup" "behind_end" P_Setup_behind_end (spD ⟨K, κ⟩ 1 L_Setup_behind_end) := ⟨fSetup_behind_end, _, ⟨haSetup_behind_end, hiSetup_behind_end, hkSetup_behind_end⟩, gL_Setup_behind_end, bSetup_behind_end⟩
  have gL_Setup_what_holds : FnOk l.prog w K mg base CX0 2 fSetup_what_holds _ P_Setup_what_holds (spD ⟨K, κ⟩ 1 L_Setup_what_holds) := ok_Setup_what_holds FSetup_what_holds T GT_FILLS CT_Setup CT_World cL__running
  have cL_Setup_what_holds : MeI l.prog w K mg base ⟨K, κ⟩ 2 "Setup" "what_holds" P_Setup_what_holds (spD ⟨K, κ⟩ 1 L_Setup_what_holds) := ⟨fSetup_what_holds, _, ⟨haSetup_what_holds, hiSetup_what_holds, hkSetup_what_holds⟩, gL_Setup_what_holds, bSetup_what_holds⟩
  have gL__is_part : FnOk l.prog w K mg base CX0 4 f_is_part _ P__is_part (spD ⟨K, κ⟩ 3 L__is_part) := ok__is_part F_is_part T CT_World cL_editions_of cL_is_plain_part
  have cL__is_part : Cal l.prog w K mg base 4 "_is_part" P__is_part (spD ⟨K, κ⟩ 3 L__is_part) := ⟨f_is_part, _, gL__is_part, b_is_part, PySem.W.mg_of X G ha_is_part, hk_is_part⟩
  have gL_are_parts : FnOk l.prog w K mg base CX0 5 fare_parts _ P_are_parts (spD ⟨K, κ⟩ 3 L_are_parts) := ok_are_parts Fare_parts T cL__is_part
  have cL_are_parts : Cal l.prog w K mg base 5 "are_parts" P_are_parts (spD ⟨K, κ⟩ 3 L_are_parts) := ⟨fare_parts, _, gL_are_parts, bare_parts, PySem.W.mg_of X G haare_parts, hkare_parts⟩
  have gL_is_step : FnOk l.prog w K mg base CX0 6 fis_step _ P_is_step (spD ⟨K, κ⟩ 2 L_is_step) := ok_is_step Fis_step T cL_step_form cL_are_parts
  have cL_is_step : Cal l.prog w K mg base 6 "is_step" P_is_step (spD ⟨K, κ⟩ 2 L_is_step) := ⟨fis_step, _, gL_is_step, bis_step, PySem.W.mg_of X G hais_step, hkis_step⟩
  have kL_is_step_1_0_0 : CalKw l.prog w K mg base 6 "is_step" P_is_step ["value", "world"] 0 [1, 0] (spD ⟨K, κ⟩ 2 L_is_step) := ⟨fis_step, _, gL_is_step, Fun_kbinds Fis_step (by decide) (fun _ _ _ _ _ _ us ws h1 h2 => match us, ws, h1, Nat.add_left_cancel (show 0 + ws.length = 0 + 2 from h2) with | [], [_, _], _, _ => rfl), PySem.W.mg_of X G hais_step, hkis_step⟩
  have gL_moments : FnOk l.prog w K mg base CX0 7 fmoments _ P_moments (spD ⟨K, κ⟩ 3 L_moments) := ok_moments Fmoments T TN cL_is_fit cL_is_tuple_of cL_Setup___init__ cL_Setup_what_holds CT_Setup cL_is_step cL_Setup_behind_begin cL_Setup_behind_end
  have cL_moments : Cal l.prog w K mg base 7 "moments" P_moments (spD ⟨K, κ⟩ 3 L_moments) := ⟨fmoments, _, gL_moments, bmoments, PySem.W.mg_of X G hamoments, hkmoments⟩
  have kL_moments_0_1_2_1 : CalKw l.prog w K mg base 7 "moments" P_moments ["span", "plan"] 1 [0, 1, 2] (spD ⟨K, κ⟩ 3 L_moments) := ⟨fmoments, _, gL_moments, Fun_kbinds Fmoments (by decide) (fun _ _ _ _ _ _ us ws h1 h2 => match us, ws, h1, Nat.add_left_cancel (show 1 + ws.length = 1 + 2 from h2) with | [_], [_, _], _, _ => rfl), PySem.W.mg_of X G hamoments, hkmoments⟩
  have kL_moments_2_1_0_0 : CalKw l.prog w K mg base 7 "moments" P_moments ["plan", "span", "world"] 0 [2, 1, 0] (spD ⟨K, κ⟩ 3 L_moments) := ⟨fmoments, _, gL_moments, Fun_kbinds Fmoments (by decide) (fun _ _ _ _ _ _ us ws h1 h2 => match us, ws, h1, Nat.add_left_cancel (show 0 + ws.length = 0 + 3 from h2) with | [], [_, _, _], _, _ => rfl), PySem.W.mg_of X G hamoments, hkmoments⟩
  have gL_momentsX : FnOk l.prog w K mg base (L2.CX l.prog w) 7 fmoments _ P_moments (spD ⟨K, κ⟩ 3 L_momentsX) := ok_momentsX Fmoments T TN EX_BadSpan cE_BadSpan EX_BadPlan cE_BadPlan cL_is_fit cL_is_tuple_of cL_Setup___init__ cL_Setup_what_holds CT_Setup cL_is_step cL_Setup_behind_begin cL_Setup_behind_end
  have cL_momentsX : CalX l.prog w K mg base 7 "moments" P_moments (spD ⟨K, κ⟩ 3 L_momentsX) := ⟨fmoments, _, gL_momentsX, bmoments, PySem.W.mg_of X G hamoments, hkmoments⟩
  have gL__law_pot_of : FnOk l.prog w K mg base CX0 1 f_law_pot_of _ P__law_pot_of (spD ⟨K, κ⟩ 2 L__law_pot_of) := ok__law_pot_of F_law_pot_of T 
  have cL__law_pot_of : Cal l.prog w K mg base 1 "_law_pot_of" P__law_pot_of (spD ⟨K, κ⟩ 2 L__law_pot_of) := ⟨f_law_pot_of, _, gL__law_pot_of, b_law_pot_of, PySem.W.mg_of X G ha_law_pot_of, hk_law_pot_of⟩
  have gL__law_take : FnOk l.prog w K mg base CX0 1 f_law_take _ P__law_take (spD ⟨K, κ⟩ 2 L__law_take) := ok__law_take F_law_take T 
  have cL__law_take : Cal l.prog w K mg base 1 "_law_take" P__law_take (spD ⟨K, κ⟩ 2 L__law_take) := ⟨f_law_take, _, gL__law_take, b_law_take, PySem.W.mg_of X G ha_law_take, hk_law_take⟩
  have gL__law_of : FnOk l.prog w K mg base CX0 2 f_law_of _ P__law_of (spD ⟨K, κ⟩ 2 L__law_of) := ok__law_of F_law_of T cL__law_take
  have cL__law_of : Cal l.prog w K mg base 2 "_law_of" P__law_of (spD ⟨K, κ⟩ 2 L__law_of) := ⟨f_law_of, _, gL__law_of, b_law_of, PySem.W.mg_of X G ha_law_of, hk_law_of⟩
  have gL__law_hand_world : FnOk l.prog w K mg base CX0 9 f_law_hand_world _ P__law_hand_world (spD ⟨K, κ⟩ 1 L__law_hand_world) := ok__law_hand_world F_law_hand_world T cL_World___init__ cL_Kind___init__
  have cL__law_hand_world : Cal l.prog w K mg base 9 "_law_hand_world" P__law_hand_world (spD ⟨K, κ⟩ 1 L__law_hand_world) := ⟨f_law_hand_world, _, gL__law_hand_world, b_law_hand_world, PySem.W.mg_of X G ha_law_hand_world, hk_law_hand_world⟩
  have gL__law_names : FnOk l.prog w K mg base CX0 3 f_law_names _ P__law_names (spD ⟨K, κ⟩ 1 L__law_names) := ok__law_names F_law_names T cL__law_of
  have cL__law_names : Cal l.prog w K mg base 3 "_law_names" P__law_names (spD ⟨K, κ⟩ 1 L__law_names) := ⟨f_law_names, _, gL__law_names, b_law_names, PySem.W.mg_of X G ha_law_names, hk_law_names⟩
  have gL__law_refused : FnOk l.prog w K mg base CX0 8 f_law_refused _ P__law_refused (spD ⟨K, κ⟩ 3 L__law_refused) := ok__law_refused F_law_refused EX_BadPlan ek_BadPlan me_BadPlan cL_momentsX
  have cL__law_refused : Cal l.prog w K mg base 8 "_law_refused" P__law_refused (spD ⟨K, κ⟩ 3 L__law_refused) := ⟨f_law_refused, _, gL__law_refused, b_law_refused, PySem.W.mg_of X G ha_law_refused, hk_law_refused⟩
  have gL__law_releases_right : FnOk l.prog w K mg base CX0 9 f_law_releases_right _ P__law_releases_right (spD ⟨K, κ⟩ 2 L__law_releases_right) := ok__law_releases_right F_law_releases_right T cL_moments cL__law_refused
  have cL__law_releases_right : Cal l.prog w K mg base 9 "_law_releases_right" P__law_releases_right (spD ⟨K, κ⟩ 2 L__law_releases_right) := ⟨f_law_releases_right, _, gL__law_releases_right, b_law_releases_right, PySem.W.mg_of X G ha_law_releases_right, hk_law_releases_right⟩
  have gL__law_sides_right : FnOk l.prog w K mg base CX0 9 f_law_sides_right _ P__law_sides_right (spD ⟨K, κ⟩ 2 L__law_sides_right) := ok__law_sides_right F_law_sides_right T cL_moments kL_moments_0_1_2_1 cL__law_refused
  have cL__law_sides_right : Cal l.prog w K mg base 9 "_law_sides_right" P__law_sides_right (spD ⟨K, κ⟩ 2 L__law_sides_right) := ⟨f_law_sides_right, _, gL__law_sides_right, b_law_sides_right, PySem.W.mg_of X G ha_law_sides_right, hk_law_sides_right⟩
  have gL__law_numbers_right : FnOk l.prog w K mg base CX0 9 f_law_numbers_right _ P__law_numbers_right (spD ⟨K, κ⟩ 2 L__law_numbers_right) := ok__law_numbers_right F_law_numbers_right T kL_moments_2_1_0_0 cL__law_refused kL_is_step_1_0_0 cL_is_step
  have cL__law_numbers_right : Cal l.prog w K mg base 9 "_law_numbers_right" P__law_numbers_right (spD ⟨K, κ⟩ 2 L__law_numbers_right) := ⟨f_law_numbers_right, _, gL__law_numbers_right, b_law_numbers_right, PySem.W.mg_of X G ha_law_numbers_right, hk_law_numbers_right⟩
  exact law_end (ok_law Flaw T cL__law_names cL__law_pot_of cL__law_hand_world cL__law_releases_right cL__law_sides_right cL__law_numbers_right)
/-! ### the head: facts by names, the run -/
def dd0 : He.DefD := ⟨("editions_of", none), "editions_of", "editions_of", defArgs s_editions_of, defBody s_editions_of, defScope s_editions_of, [], []⟩
def dd1 : He.DefD := ⟨("other_side", none), "other_side", "other_side", defArgs s_other_side, defBody s_other_side, defScope s_other_side, [], []⟩
def dd2 : He.DefD := ⟨("BadSpan", some "__init__"), "__init__", "BadSpan.__init__", defArgs s_BadSpan___init__, defBody s_BadSpan___init__, defScope s_BadSpan___init__, [], []⟩
def dd3 : He.DefD := ⟨("BadPlan", some "__init__"), "__init__", "BadPlan.__init__", defArgs s_BadPlan___init__, defBody s_BadPlan___init__, defScope s_BadPlan___init__, [], []⟩
def dd4 : He.DefD := ⟨("is_integer", none), "is_integer", "is_integer", defArgs s_is_integer, defBody s_is_integer, defScope s_is_integer, [], []⟩
def dd5 : He.DefD := ⟨("is_between", none), "is_between", "is_between", defArgs s_is_between, defBody s_is_between, defScope s_is_between, [], []⟩
def dd6 : He.DefD := ⟨("lesser", none), "lesser", "lesser", defArgs s_lesser, defBody s_lesser, defScope s_lesser, [], []⟩
def dd7 : He.DefD := ⟨("greater", none), "greater", "greater", defArgs s_greater, defBody s_greater, defScope s_greater, [], []⟩
def dd8 : He.DefD := ⟨("is_name", none), "is_name", "is_name", defArgs s_is_name, defBody s_is_name, defScope s_is_name, [], []⟩
def dd9 : He.DefD := ⟨("is_tuple_of", none), "is_tuple_of", "is_tuple_of", defArgs s_is_tuple_of, defBody s_is_tuple_of, defScope s_is_tuple_of, [], []⟩
def dd10 : He.DefD := ⟨("is_ascending", none), "is_ascending", "is_ascending", defArgs s_is_ascending, defBody s_is_ascending, defScope s_is_ascending, [], []⟩
def dd11 : He.DefD := ⟨("step_form", none), "step_form", "step_form", defArgs s_step_form, defBody s_step_form, defScope s_step_form, [], []⟩
def dd12 : He.DefD := ⟨("is_plain_part", none), "is_plain_part", "is_plain_part", defArgs s_is_plain_part, defBody s_is_plain_part, defScope s_is_plain_part, [], []⟩
def dd13 : He.DefD := ⟨("is_count", none), "is_count", "is_count", defArgs s_is_count, defBody s_is_count, defScope s_is_count, [], []⟩
def dd14 : He.DefD := ⟨("_first_word", none), "_first_word", "_first_word", defArgs s__first_word, defBody s__first_word, defScope s__first_word, [], []⟩
def dd15 : He.DefD := ⟨("is_span", none), "is_span", "is_span", defArgs s_is_span, defBody s_is_span, defScope s_is_span, [], []⟩
def dd16 : He.DefD := ⟨("is_fit", none), "is_fit", "is_fit", defArgs s_is_fit, defBody s_is_fit, defScope s_is_fit, [], []⟩
def dd17 : He.DefD := ⟨("_are_none_or_many", none), "_are_none_or_many", "_are_none_or_many", defArgs s__are_none_or_many, defBody s__are_none_or_many, defScope s__are_none_or_many, [], []⟩
def dd18 : He.DefD := ⟨("Setup", some "__init__"), "__init__", "Setup.__init__", defArgs s_Setup___init__, defBody s_Setup___init__, defScope s_Setup___init__, [], []⟩
def dd19 : He.DefD := ⟨("Setup", some "behind_begin"), "behind_begin", "Setup.behind_begin", defArgs s_Setup_behind_begin, defBody s_Setup_behind_begin, defScope s_Setup_behind_begin, [], []⟩
def dd20 : He.DefD := ⟨("Setup", some "behind_end"), "behind_end", "Setup.behind_end", defArgs s_Setup_behind_end, defBody s_Setup_behind_end, defScope s_Setup_behind_end, [], []⟩
def dd21 : He.DefD := ⟨("Setup", some "what_holds"), "what_holds", "Setup.what_holds", defArgs s_Setup_what_holds, defBody s_Setup_what_holds, defScope s_Setup_what_holds, [], []⟩
def dd22 : He.DefD := ⟨("_twin", none), "_twin", "_twin", defArgs s__twin, defBody s__twin, defScope s__twin, [], []⟩
def dd23 : He.DefD := ⟨("_running", none), "_running", "_running", defArgs s__running, defBody s__running, defScope s__running, [], []⟩
def dd24 : He.DefD := ⟨("_can_add", none), "_can_add", "_can_add", defArgs s__can_add, defBody s__can_add, defScope s__can_add, [], []⟩
def dd25 : He.DefD := ⟨("_add", none), "_add", "_add", defArgs s__add, defBody s__add, defScope s__add, [], []⟩
def dd26 : He.DefD := ⟨("_can_drop", none), "_can_drop", "_can_drop", defArgs s__can_drop, defBody s__can_drop, defScope s__can_drop, [], []⟩
def dd27 : He.DefD := ⟨("_drop", none), "_drop", "_drop", defArgs s__drop, defBody s__drop, defScope s__drop, [], []⟩
def dd28 : He.DefD := ⟨("_can_mirror_up", none), "_can_mirror_up", "_can_mirror_up", defArgs s__can_mirror_up, defBody s__can_mirror_up, defScope s__can_mirror_up, [], []⟩
def dd29 : He.DefD := ⟨("_mirror_up", none), "_mirror_up", "_mirror_up", defArgs s__mirror_up, defBody s__mirror_up, defScope s__mirror_up, [], []⟩
def dd30 : He.DefD := ⟨("_is_up", none), "_is_up", "_is_up", defArgs s__is_up, defBody s__is_up, defScope s__is_up, [], []⟩
def dd31 : He.DefD := ⟨("_end_up", none), "_end_up", "_end_up", defArgs s__end_up, defBody s__end_up, defScope s__end_up, [], []⟩
def dd32 : He.DefD := ⟨("_can_mirror_down", none), "_can_mirror_down", "_can_mirror_down", defArgs s__can_mirror_down, defBody s__can_mirror_down, defScope s__can_mirror_down, [], []⟩
def dd33 : He.DefD := ⟨("_mirror_down", none), "_mirror_down", "_mirror_down", defArgs s__mirror_down, defBody s__mirror_down, defScope s__mirror_down, [], []⟩
def dd34 : He.DefD := ⟨("_is_down", none), "_is_down", "_is_down", defArgs s__is_down, defBody s__is_down, defScope s__is_down, [], []⟩
def dd35 : He.DefD := ⟨("_end_down", none), "_end_down", "_end_down", defArgs s__end_down, defBody s__end_down, defScope s__end_down, [], []⟩
def dd36 : He.DefD := ⟨("_has_both", none), "_has_both", "_has_both", defArgs s__has_both, defBody s__has_both, defScope s__has_both, [], []⟩
def dd37 : He.DefD := ⟨("_can_release", none), "_can_release", "_can_release", defArgs s__can_release, defBody s__can_release, defScope s__can_release, [], []⟩
def dd38 : He.DefD := ⟨("_can_withdraw", none), "_can_withdraw", "_can_withdraw", defArgs s__can_withdraw, defBody s__can_withdraw, defScope s__can_withdraw, [], []⟩
def dd39 : He.DefD := ⟨("_go_on", none), "_go_on", "_go_on", defArgs s__go_on, defBody s__go_on, defScope s__go_on, [], []⟩
def dd40 : He.DefD := ⟨("_can_grow", none), "_can_grow", "_can_grow", defArgs s__can_grow, defBody s__can_grow, defScope s__can_grow, [], []⟩
def dd41 : He.DefD := ⟨("_grow", none), "_grow", "_grow", defArgs s__grow, defBody s__grow, defScope s__grow, [], []⟩
def dd42 : He.DefD := ⟨("_can_purge", none), "_can_purge", "_can_purge", defArgs s__can_purge, defBody s__can_purge, defScope s__can_purge, [], []⟩
def dd43 : He.DefD := ⟨("_purge", none), "_purge", "_purge", defArgs s__purge, defBody s__purge, defScope s__purge, [], []⟩
def dd44 : He.DefD := ⟨("is_step", none), "is_step", "is_step", defArgs s_is_step, defBody s_is_step, defScope s_is_step, [], []⟩
def dd45 : He.DefD := ⟨("moments", none), "moments", "moments", defArgs s_moments, defBody s_moments, defScope s_moments, [], []⟩
def dd46 : He.DefD := ⟨("are_parts", none), "are_parts", "are_parts", defArgs s_are_parts, defBody s_are_parts, defScope s_are_parts, [], []⟩
def dd47 : He.DefD := ⟨("_is_part", none), "_is_part", "_is_part", defArgs s__is_part, defBody s__is_part, defScope s__is_part, [], []⟩
def dd48 : He.DefD := ⟨("Kind", some "__init__"), "__init__", "Kind.__init__", defArgs s_Kind___init__, defBody s_Kind___init__, defScope s_Kind___init__, [], []⟩
def dd49 : He.DefD := ⟨("Kind", some "__contains__"), "__contains__", "Kind.__contains__", defArgs s_Kind___contains__, defBody s_Kind___contains__, defScope s_Kind___contains__, [], []⟩
def dd50 : He.DefD := ⟨("Kind", some "__eq__"), "__eq__", "Kind.__eq__", defArgs s_Kind___eq__, defBody s_Kind___eq__, defScope s_Kind___eq__, [], []⟩
def dd51 : He.DefD := ⟨("Kind", some "__le__"), "__le__", "Kind.__le__", defArgs s_Kind___le__, defBody s_Kind___le__, defScope s_Kind___le__, [], []⟩
def dd52 : He.DefD := ⟨("Kind", some "__lt__"), "__lt__", "Kind.__lt__", defArgs s_Kind___lt__, defBody s_Kind___lt__, defScope s_Kind___lt__, [], []⟩
def dd53 : He.DefD := ⟨("World", some "__init__"), "__init__", "World.__init__", defArgs s_World___init__, defBody s_World___init__, defScope s_World___init__, [], []⟩
def dd54 : He.DefD := ⟨("_are_kinds", none), "_are_kinds", "_are_kinds", defArgs s__are_kinds, defBody s__are_kinds, defScope s__are_kinds, [], []⟩
def dd55 : He.DefD := ⟨("_are_columns", none), "_are_columns", "_are_columns", defArgs s__are_columns, defBody s__are_columns, defScope s__are_columns, [], []⟩
def dd56 : He.DefD := ⟨("_are_programs", none), "_are_programs", "_are_programs", defArgs s__are_programs, defBody s__are_programs, defScope s__are_programs, [], []⟩
def dd57 : He.DefD := ⟨("_is_program", none), "_is_program", "_is_program", defArgs s__is_program, defBody s__is_program, defScope s__is_program, [], []⟩
def dd58 : He.DefD := ⟨("_is_edition", none), "_is_edition", "_is_edition", defArgs s__is_edition, defBody s__is_edition, defScope s__is_edition, [], []⟩
def dd59 : He.DefD := ⟨("_are_rows", none), "_are_rows", "_are_rows", defArgs s__are_rows, defBody s__are_rows, defScope s__are_rows, [], []⟩
def dd60 : He.DefD := ⟨("_is_read", none), "_is_read", "_is_read", defArgs s__is_read, defBody s__is_read, defScope s__is_read, [], []⟩
def dd61 : He.DefD := ⟨("_is_write", none), "_is_write", "_is_write", defArgs s__is_write, defBody s__is_write, defScope s__is_write, [], []⟩
def dd62 : He.DefD := ⟨("_is_first_edition", none), "_is_first_edition", "_is_first_edition", defArgs s__is_first_edition, defBody s__is_first_edition, defScope s__is_first_edition, [], []⟩
def dd63 : He.DefD := ⟨("_many_in_two_events", none), "_many_in_two_events", "_many_in_two_events", defArgs s__many_in_two_events, defBody s__many_in_two_events, defScope s__many_in_two_events, [], []⟩
def dd64 : He.DefD := ⟨("_law_pot_of", none), "_law_pot_of", "_law_pot_of", defArgs s__law_pot_of, defBody s__law_pot_of, defScope s__law_pot_of, [], []⟩
def dd65 : He.DefD := ⟨("_law_take", none), "_law_take", "_law_take", defArgs s__law_take, defBody s__law_take, defScope s__law_take, [], []⟩
def dd66 : He.DefD := ⟨("_law_of", none), "_law_of", "_law_of", defArgs s__law_of, defBody s__law_of, defScope s__law_of, [], []⟩
def dd67 : He.DefD := ⟨("_law_hand_world", none), "_law_hand_world", "_law_hand_world", defArgs s__law_hand_world, defBody s__law_hand_world, defScope s__law_hand_world, [], []⟩
def dd68 : He.DefD := ⟨("_law_names", none), "_law_names", "_law_names", defArgs s__law_names, defBody s__law_names, defScope s__law_names, [], []⟩
def dd69 : He.DefD := ⟨("_law_refused", none), "_law_refused", "_law_refused", defArgs s__law_refused, defBody s__law_refused, defScope s__law_refused, [], []⟩
def dd70 : He.DefD := ⟨("_law_releases_right", none), "_law_releases_right", "_law_releases_right", defArgs s__law_releases_right, defBody s__law_releases_right, defScope s__law_releases_right, [], []⟩
def dd71 : He.DefD := ⟨("_law_sides_right", none), "_law_sides_right", "_law_sides_right", defArgs s__law_sides_right, defBody s__law_sides_right, defScope s__law_sides_right, [], []⟩
def dd72 : He.DefD := ⟨("_law_numbers_right", none), "_law_numbers_right", "_law_numbers_right", defArgs s__law_numbers_right, defBody s__law_numbers_right, defScope s__law_numbers_right, [], []⟩
def dd73 : He.DefD := ⟨("law", none), "law", "law", defArgs s_law, defBody s_law, defScope s_law, [], []⟩
def fnl0 : List He.DefD := [dd0, dd1, dd2, dd3, dd4, dd5, dd6, dd7, dd8, dd9, dd10, dd11, dd12, dd13, dd14, dd15, dd16, dd17, dd18, dd19, dd20, dd21, dd22, dd23, dd24, dd25, dd26, dd27, dd28, dd29, dd30, dd31, dd32, dd33, dd34, dd35, dd36, dd37, dd38, dd39]
def fnl1 : List He.DefD := [dd40, dd41, dd42, dd43, dd44, dd45, dd46, dd47, dd48, dd49, dd50, dd51, dd52, dd53, dd54, dd55, dd56, dd57, dd58, dd59, dd60, dd61, dd62, dd63, dd64, dd65, dd66, dd67, dd68, dd69, dd70, dd71, dd72, dd73]
def fnl : List He.DefD := fnl0 ++ fnl1
def tsl : List He.Tab := [(fun K => (He.ga K "STEP_FORMS"), (t_STEP_FORMS.map (·.1))), (fun K => (He.ga K "POSSIBLE"), ["add", "drop", "up", "no up", "down", "no down", "fill", "fill back", "release", "withdraw", "grow", "purge"]), (fun K => (He.ga K "CHANGES"), ["add", "drop", "up", "no up", "down", "no down", "fill", "fill back", "release", "withdraw", "grow", "purge"])]
def exl0 (K : PySem.W.Frag) : Bool := decide (PySem.W.nsIn K mainGlobals "WidthError" = some (some (.ref (He.ga K "WidthError")))) && (decide (PySem.W.subIn K (.ref (He.ga K "WidthError")) (.type "BaseException") = some true) && (PySem.W.hasDictIn K (He.ga K "WidthError") && (decide (PySem.W.typeIn K (.ref (He.ga K "WidthError")) = some (.type "type")) && (decide (PySem.W.specialIn K (.builtin "object.__class__") "__get__" = some (some (.builtin "getset_descriptor.__get__"))) && (decide (PySem.W.takesIn K (.builtin "object.__class__") = some true) && (decide (PySem.W.nsIn K mainGlobals "ValueError" = some none) && (decide (PySem.W.nsIn K mainGlobals "BadSpan" = some (some (.ref (He.ga K "BadSpan")))) && (oexB K (He.ga K "BadSpan") (He.ga K "WidthError") && (decide (PySem.W.findIn K (.ref (He.ga K "BadSpan")) "__setattr__" = some (some (.builtin "object.__setattr__"))) && (decide (PySem.W.findIn K (.ref (He.ga K "BadSpan")) "__getattribute__" = some (some (.builtin "BaseException.__getattribute__"))) && (decide (PySem.W.findIn K (.ref (He.ga K "BadSpan")) "__getattr__" = some none) && (PySem.W.keepIn K (.ref (He.ga K "BadSpan")) && (decide (PySem.W.subIn K (.ref (He.ga K "BadSpan")) (.type "BaseException") = some true) && (decide (PySem.W.typeIn K (.ref (He.ga K "BadSpan")) = some (.type "type")) && (PySem.W.hasDictIn K (He.ga K "BadSpan") && (decide (PySem.W.findIn K (.ref (He.ga K "BadSpan")) "__class__" = some (some (.builtin "object.__class__"))) && (decide (PySem.W.mroIn K (He.ga K "BadSpan") (.type "object") = some true) && (decide (PySem.W.subIn K (.ref (He.ga K "BadSpan")) (.type "ValueError") = some true) && (decide (PySem.W.subIn K (.ref (He.ga K "BadSpan")) (.ref (He.ga K "WidthError")) = some true))))))))))))))))))))
def exl1 (K : PySem.W.Frag) : Bool := decide (PySem.W.findIn K (.ref (He.ga K "BadSpan")) "value" = some none) && (decide (PySem.W.nsIn K mainGlobals "BadPlan" = some (some (.ref (He.ga K "BadPlan")))) && (oexB K (He.ga K "BadPlan") (He.ga K "WidthError") && (decide (PySem.W.findIn K (.ref (He.ga K "BadPlan")) "__setattr__" = some (some (.builtin "object.__setattr__"))) && (decide (PySem.W.findIn K (.ref (He.ga K "BadPlan")) "__getattribute__" = some (some (.builtin "BaseException.__getattribute__"))) && (decide (PySem.W.findIn K (.ref (He.ga K "BadPlan")) "__getattr__" = some none) && (PySem.W.keepIn K (.ref (He.ga K "BadPlan")) && (decide (PySem.W.subIn K (.ref (He.ga K "BadPlan")) (.type "BaseException") = some true) && (decide (PySem.W.typeIn K (.ref (He.ga K "BadPlan")) = some (.type "type")) && (PySem.W.hasDictIn K (He.ga K "BadPlan") && (decide (PySem.W.findIn K (.ref (He.ga K "BadPlan")) "__class__" = some (some (.builtin "object.__class__"))) && (decide (PySem.W.mroIn K (He.ga K "BadPlan") (.type "object") = some true) && (decide (PySem.W.subIn K (.ref (He.ga K "BadPlan")) (.type "ValueError") = some true) && (decide (PySem.W.subIn K (.ref (He.ga K "BadPlan")) (.ref (He.ga K "WidthError")) = some true) && (decide (PySem.W.findIn K (.ref (He.ga K "BadPlan")) "index" = some none) && (decide (PySem.W.nsIn K mainGlobals "World" = some (some (.ref (He.ga K "World")))) && (PySem.W.plainGet K (He.ga K "World") Str.empty && (PySem.W.hasDictIn K (He.ga K "World") && (PySem.W.plainOver K (He.ga K "World") && (decide (PySem.W.findIn K (.ref (He.ga K "World")) "__setattr__" = some (some (.builtin "object.__setattr__"))))))))))))))))))))))
def exl2 (K : PySem.W.Frag) : Bool := PySem.W.makesIn K (He.ga K "World") && (PySem.W.keepIn K (.ref (He.ga K "World")) && (decide (PySem.W.findIn K (.ref (He.ga K "World")) "__class__" = some (some (.builtin "object.__class__"))) && (decide (PySem.W.mroIn K (He.ga K "World") (.type "object") = some true) && (decide (PySem.W.findIn K (.ref (He.ga K "World")) "narrow" = some none) && (decide (PySem.W.findIn K (.ref (He.ga K "World")) "wide" = some none) && (decide (PySem.W.findIn K (.ref (He.ga K "World")) "columns" = some none) && (decide (PySem.W.findIn K (.ref (He.ga K "World")) "programs" = some none) && (decide (PySem.W.nsIn K mainGlobals "Kind" = some (some (.ref (He.ga K "Kind")))) && (PySem.W.plainGet K (He.ga K "Kind") Str.empty && (PySem.W.hasDictIn K (He.ga K "Kind") && (PySem.W.plainOver K (He.ga K "Kind") && (decide (PySem.W.findIn K (.ref (He.ga K "Kind")) "__setattr__" = some (some (.builtin "object.__setattr__"))) && (PySem.W.makesIn K (He.ga K "Kind") && (PySem.W.keepIn K (.ref (He.ga K "Kind")) && (decide (PySem.W.findIn K (.ref (He.ga K "Kind")) "__class__" = some (some (.builtin "object.__class__"))) && (decide (PySem.W.mroIn K (He.ga K "Kind") (.type "object") = some true) && (decide (PySem.W.findIn K (.ref (He.ga K "Kind")) "low" = some none) && (decide (PySem.W.findIn K (.ref (He.ga K "Kind")) "high" = some none) && (decide (PySem.W.findIn K (.ref (He.ga K "Kind")) "size" = some none))))))))))))))))))))
def exl3 (K : PySem.W.Frag) : Bool := decide (PySem.W.nsIn K mainGlobals "Setup" = some (some (.ref (He.ga K "Setup")))) && (PySem.W.plainGet K (He.ga K "Setup") Str.empty && (PySem.W.hasDictIn K (He.ga K "Setup") && (PySem.W.plainOver K (He.ga K "Setup") && (decide (PySem.W.findIn K (.ref (He.ga K "Setup")) "__setattr__" = some (some (.builtin "object.__setattr__"))) && (PySem.W.makesIn K (He.ga K "Setup") && (PySem.W.keepIn K (.ref (He.ga K "Setup")) && (decide (PySem.W.findIn K (.ref (He.ga K "Setup")) "__class__" = some (some (.builtin "object.__class__"))) && (decide (PySem.W.mroIn K (He.ga K "Setup") (.type "object") = some true) && (decide (PySem.W.findIn K (.ref (He.ga K "Setup")) "world" = some none) && (decide (PySem.W.findIn K (.ref (He.ga K "Setup")) "editions" = some none) && (decide (PySem.W.findIn K (.ref (He.ga K "Setup")) "sides" = some none) && (decide (PySem.W.findIn K (.ref (He.ga K "Setup")) "ups" = some none) && (decide (PySem.W.findIn K (.ref (He.ga K "Setup")) "downs" = some none) && (decide (PySem.W.findIn K (.ref (He.ga K "Setup")) "going" = some none) && (decide (PySem.W.findIn K (.ref (He.ga K "Setup")) "span" = some none) && (decide (PySem.W.findIn K (.ref (He.ga K "Setup")) "lasts" = some none) && (numB K "MOST_LETTERS" 8 && (numB K "MOST_STEPS" 14 && (numB K "LEAST_NUMBERS" 16)))))))))))))))))))
def exl4 (K : PySem.W.Frag) : Bool := numB K "LEAST_NARROW" 16 && (numB K "MOST_PACE" 99 && (numB K "MOST_IN_TWO_EVENTS" 2 && (decide (PySem.W.nsIn K mainGlobals "SIDES" = some (some (.ref (He.ga K "SIDES")))) && (decide (tupW K (He.ga K "SIDES") = some (["narrow", "wide"] : List Str)) && (decide (PySem.W.nsIn K mainGlobals "RULES" = some (some (.ref (He.ga K "RULES")))) && (decide (tupW K (He.ga K "RULES") = some (["cut", "empty", "refuse"] : List Str)) && (decide (PySem.W.nsIn K mainGlobals "MANNERS" = some (some (.ref (He.ga K "MANNERS")))) && (decide (tupW K (He.ga K "MANNERS") = some (["empty", "anew"] : List Str)) && (decide (PySem.W.nsIn K mainGlobals "FILLS" = some (some (.ref (He.ga K "FILLS")))) && (decide (tupW K (He.ga K "FILLS") = some (["fill", "fill back"] : List Str)) && (decide (PySem.W.nsIn K mainGlobals "DEEDS" = some (some (.ref (He.ga K "DEEDS")))) && (decide (tupW K (He.ga K "DEEDS") = some (["match", "order", "show"] : List Str)) && (decide (PySem.W.nsIn K mainGlobals "READ_SIDES" = some (some (.ref (He.ga K "READ_SIDES")))) && (decide (tupW K (He.ga K "READ_SIDES") = some (["narrow", "wide", "either"] : List Str)) && (decide (PySem.W.nsIn K mainGlobals "HOWS" = some (some (.ref (He.ga K "HOWS")))) && (decide (tupW K (He.ga K "HOWS") = some (["narrow", "wide", "both", "narrow first", "wide first"] : List Str)) && (decide (PySem.W.nsIn K mainGlobals "IN_TWO_EVENTS" = some (some (.ref (He.ga K "IN_TWO_EVENTS")))) && (decide (tupW K (He.ga K "IN_TWO_EVENTS") = some (["narrow first", "wide first"] : List Str)) && (decide (PySem.W.nsIn K mainGlobals "STEP_FORMS" = some (some (.ref (He.ga K "STEP_FORMS")))))))))))))))))))))))
def exl5 (K : PySem.W.Frag) : Bool := tabOk K (He.ga K "STEP_FORMS") t_STEP_FORMS && (decide (PySem.W.nsIn K mainGlobals "POSSIBLE" = some (some (.ref (He.ga K "POSSIBLE")))) && (decide (PySem.W.nsIn K (He.ga K "POSSIBLE") "add" = some (some (.ref (He.ga K "_can_add")))) && (decide (PySem.W.nsIn K (He.ga K "POSSIBLE") "drop" = some (some (.ref (He.ga K "_can_drop")))) && (decide (PySem.W.nsIn K (He.ga K "POSSIBLE") "up" = some (some (.ref (He.ga K "_can_mirror_up")))) && (decide (PySem.W.nsIn K (He.ga K "POSSIBLE") "no up" = some (some (.ref (He.ga K "_is_up")))) && (decide (PySem.W.nsIn K (He.ga K "POSSIBLE") "down" = some (some (.ref (He.ga K "_can_mirror_down")))) && (decide (PySem.W.nsIn K (He.ga K "POSSIBLE") "no down" = some (some (.ref (He.ga K "_is_down")))) && (decide (PySem.W.nsIn K (He.ga K "POSSIBLE") "fill" = some (some (.ref (He.ga K "_has_both")))) && (decide (PySem.W.nsIn K (He.ga K "POSSIBLE") "fill back" = some (some (.ref (He.ga K "_has_both")))) && (decide (PySem.W.nsIn K (He.ga K "POSSIBLE") "release" = some (some (.ref (He.ga K "_can_release")))) && (decide (PySem.W.nsIn K (He.ga K "POSSIBLE") "withdraw" = some (some (.ref (He.ga K "_can_withdraw")))) && (decide (PySem.W.nsIn K (He.ga K "POSSIBLE") "grow" = some (some (.ref (He.ga K "_can_grow")))) && (decide (PySem.W.nsIn K (He.ga K "POSSIBLE") "purge" = some (some (.ref (He.ga K "_can_purge")))) && (decide (PySem.W.nsIn K mainGlobals "CHANGES" = some (some (.ref (He.ga K "CHANGES")))) && (decide (PySem.W.nsIn K (He.ga K "CHANGES") "add" = some (some (.ref (He.ga K "_add")))) && (decide (PySem.W.nsIn K (He.ga K "CHANGES") "drop" = some (some (.ref (He.ga K "_drop")))) && (decide (PySem.W.nsIn K (He.ga K "CHANGES") "up" = some (some (.ref (He.ga K "_mirror_up")))) && (decide (PySem.W.nsIn K (He.ga K "CHANGES") "no up" = some (some (.ref (He.ga K "_end_up")))) && (decide (PySem.W.nsIn K (He.ga K "CHANGES") "down" = some (some (.ref (He.ga K "_mirror_down")))))))))))))))))))))))
def exl6 (K : PySem.W.Frag) : Bool := decide (PySem.W.nsIn K (He.ga K "CHANGES") "no down" = some (some (.ref (He.ga K "_end_down")))) && (decide (PySem.W.nsIn K (He.ga K "CHANGES") "fill" = some (some (.ref (He.ga K "_go_on")))) && (decide (PySem.W.nsIn K (He.ga K "CHANGES") "fill back" = some (some (.ref (He.ga K "_go_on")))) && (decide (PySem.W.nsIn K (He.ga K "CHANGES") "release" = some (some (.ref (He.ga K "_go_on")))) && (decide (PySem.W.nsIn K (He.ga K "CHANGES") "withdraw" = some (some (.ref (He.ga K "_go_on")))) && (decide (PySem.W.nsIn K (He.ga K "CHANGES") "grow" = some (some (.ref (He.ga K "_grow")))) && (decide (PySem.W.nsIn K (He.ga K "CHANGES") "purge" = some (some (.ref (He.ga K "_purge")))) && (decide (PySem.W.nsIn K mainGlobals "dict" = some none) && (decide (PySem.W.subIn K (.ref (He.ga K "BadSpan")) (.ref (He.ga K "BadSpan")) = some true) && (decide (PySem.W.subIn K (.ref (He.ga K "BadPlan")) (.ref (He.ga K "BadPlan")) = some true) && (decide (PySem.W.nsIn K mainGlobals "editions_of" = some (some (.ref (He.ga K "editions_of")))) && (decide (PySem.W.nsIn K mainGlobals "other_side" = some (some (.ref (He.ga K "other_side")))) && (decide (PySem.W.findIn K (.ref (He.ga K "BadSpan")) "__init__" = some (some (.ref (He.ma K (He.ga K "BadSpan") "__init__")))) && (PySem.W.isFn K (.ref (He.ma K (He.ga K "BadSpan") "__init__")) && (decide (PySem.W.findIn K (.ref (He.ga K "BadPlan")) "__init__" = some (some (.ref (He.ma K (He.ga K "BadPlan") "__init__")))) && (PySem.W.isFn K (.ref (He.ma K (He.ga K "BadPlan") "__init__")) && (decide (PySem.W.nsIn K mainGlobals "is_integer" = some (some (.ref (He.ga K "is_integer")))) && (decide (PySem.W.nsIn K mainGlobals "is_between" = some (some (.ref (He.ga K "is_between")))) && (decide (PySem.W.nsIn K mainGlobals "lesser" = some (some (.ref (He.ga K "lesser")))) && (decide (PySem.W.nsIn K mainGlobals "greater" = some (some (.ref (He.ga K "greater")))))))))))))))))))))))
def exl7 (K : PySem.W.Frag) : Bool := decide (PySem.W.nsIn K mainGlobals "is_name" = some (some (.ref (He.ga K "is_name")))) && (decide (PySem.W.nsIn K mainGlobals "is_tuple_of" = some (some (.ref (He.ga K "is_tuple_of")))) && (decide (PySem.W.nsIn K mainGlobals "is_ascending" = some (some (.ref (He.ga K "is_ascending")))) && (decide (PySem.W.nsIn K mainGlobals "step_form" = some (some (.ref (He.ga K "step_form")))) && (decide (PySem.W.nsIn K mainGlobals "is_plain_part" = some (some (.ref (He.ga K "is_plain_part")))) && (decide (PySem.W.nsIn K mainGlobals "is_count" = some (some (.ref (He.ga K "is_count")))) && (decide (PySem.W.nsIn K mainGlobals "_first_word" = some (some (.ref (He.ga K "_first_word")))) && (decide (PySem.W.nsIn K mainGlobals "is_span" = some (some (.ref (He.ga K "is_span")))) && (decide (PySem.W.nsIn K mainGlobals "is_fit" = some (some (.ref (He.ga K "is_fit")))) && (decide (PySem.W.nsIn K mainGlobals "_are_none_or_many" = some (some (.ref (He.ga K "_are_none_or_many")))) && (decide (PySem.W.findIn K (.ref (He.ga K "Setup")) "__init__" = some (some (.ref (He.ma K (He.ga K "Setup") "__init__")))) && (PySem.W.isFn K (.ref (He.ma K (He.ga K "Setup") "__init__")) && (decide (PySem.W.findIn K (.ref (He.ga K "Setup")) "behind_begin" = some (some (.ref (He.ma K (He.ga K "Setup") "behind_begin")))) && (PySem.W.isFn K (.ref (He.ma K (He.ga K "Setup") "behind_begin")) && (decide (PySem.W.findIn K (.ref (He.ga K "Setup")) "behind_end" = some (some (.ref (He.ma K (He.ga K "Setup") "behind_end")))) && (PySem.W.isFn K (.ref (He.ma K (He.ga K "Setup") "behind_end")) && (decide (PySem.W.findIn K (.ref (He.ga K "Setup")) "what_holds" = some (some (.ref (He.ma K (He.ga K "Setup") "what_holds")))) && (PySem.W.isFn K (.ref (He.ma K (He.ga K "Setup") "what_holds")) && (decide (PySem.W.nsIn K mainGlobals "_twin" = some (some (.ref (He.ga K "_twin")))) && (decide (PySem.W.nsIn K mainGlobals "_running" = some (some (.ref (He.ga K "_running")))))))))))))))))))))))
def exl8 (K : PySem.W.Frag) : Bool := decide (PySem.W.nsIn K mainGlobals "_can_add" = some (some (.ref (He.ga K "_can_add")))) && (decide (PySem.W.nsIn K mainGlobals "_add" = some (some (.ref (He.ga K "_add")))) && (decide (PySem.W.nsIn K mainGlobals "_can_drop" = some (some (.ref (He.ga K "_can_drop")))) && (decide (PySem.W.nsIn K mainGlobals "_drop" = some (some (.ref (He.ga K "_drop")))) && (decide (PySem.W.nsIn K mainGlobals "_can_mirror_up" = some (some (.ref (He.ga K "_can_mirror_up")))) && (decide (PySem.W.nsIn K mainGlobals "_mirror_up" = some (some (.ref (He.ga K "_mirror_up")))) && (decide (PySem.W.nsIn K mainGlobals "_is_up" = some (some (.ref (He.ga K "_is_up")))) && (decide (PySem.W.nsIn K mainGlobals "_end_up" = some (some (.ref (He.ga K "_end_up")))) && (decide (PySem.W.nsIn K mainGlobals "_can_mirror_down" = some (some (.ref (He.ga K "_can_mirror_down")))) && (decide (PySem.W.nsIn K mainGlobals "_mirror_down" = some (some (.ref (He.ga K "_mirror_down")))) && (decide (PySem.W.nsIn K mainGlobals "_is_down" = some (some (.ref (He.ga K "_is_down")))) && (decide (PySem.W.nsIn K mainGlobals "_end_down" = some (some (.ref (He.ga K "_end_down")))) && (decide (PySem.W.nsIn K mainGlobals "_has_both" = some (some (.ref (He.ga K "_has_both")))) && (decide (PySem.W.nsIn K mainGlobals "_can_release" = some (some (.ref (He.ga K "_can_release")))) && (decide (PySem.W.nsIn K mainGlobals "_can_withdraw" = some (some (.ref (He.ga K "_can_withdraw")))) && (decide (PySem.W.nsIn K mainGlobals "_go_on" = some (some (.ref (He.ga K "_go_on")))) && (decide (PySem.W.nsIn K mainGlobals "_can_grow" = some (some (.ref (He.ga K "_can_grow")))) && (decide (PySem.W.nsIn K mainGlobals "_grow" = some (some (.ref (He.ga K "_grow")))) && (decide (PySem.W.nsIn K mainGlobals "_can_purge" = some (some (.ref (He.ga K "_can_purge")))) && (decide (PySem.W.nsIn K mainGlobals "_purge" = some (some (.ref (He.ga K "_purge")))))))))))))))))))))))
def exl9 (K : PySem.W.Frag) : Bool := decide (PySem.W.nsIn K mainGlobals "is_step" = some (some (.ref (He.ga K "is_step")))) && (decide (PySem.W.nsIn K mainGlobals "moments" = some (some (.ref (He.ga K "moments")))) && (decide (PySem.W.nsIn K mainGlobals "are_parts" = some (some (.ref (He.ga K "are_parts")))) && (decide (PySem.W.nsIn K mainGlobals "_is_part" = some (some (.ref (He.ga K "_is_part")))) && (decide (PySem.W.findIn K (.ref (He.ga K "Kind")) "__init__" = some (some (.ref (He.ma K (He.ga K "Kind") "__init__")))) && (PySem.W.isFn K (.ref (He.ma K (He.ga K "Kind") "__init__")) && (decide (PySem.W.findIn K (.ref (He.ga K "Kind")) "__contains__" = some (some (.ref (He.ma K (He.ga K "Kind") "__contains__")))) && (PySem.W.isFn K (.ref (He.ma K (He.ga K "Kind") "__contains__")) && (decide (PySem.W.findIn K (.ref (He.ga K "Kind")) "__eq__" = some (some (.ref (He.ma K (He.ga K "Kind") "__eq__")))) && (PySem.W.isFn K (.ref (He.ma K (He.ga K "Kind") "__eq__")) && (decide (PySem.W.findIn K (.ref (He.ga K "Kind")) "__le__" = some (some (.ref (He.ma K (He.ga K "Kind") "__le__")))) && (PySem.W.isFn K (.ref (He.ma K (He.ga K "Kind") "__le__")) && (decide (PySem.W.findIn K (.ref (He.ga K "Kind")) "__lt__" = some (some (.ref (He.ma K (He.ga K "Kind") "__lt__")))) && (PySem.W.isFn K (.ref (He.ma K (He.ga K "Kind") "__lt__")) && (decide (PySem.W.findIn K (.ref (He.ga K "World")) "__init__" = some (some (.ref (He.ma K (He.ga K "World") "__init__")))) && (PySem.W.isFn K (.ref (He.ma K (He.ga K "World") "__init__")) && (decide (PySem.W.nsIn K mainGlobals "_are_kinds" = some (some (.ref (He.ga K "_are_kinds")))) && (decide (PySem.W.nsIn K mainGlobals "_are_columns" = some (some (.ref (He.ga K "_are_columns")))) && (decide (PySem.W.nsIn K mainGlobals "_are_programs" = some (some (.ref (He.ga K "_are_programs")))) && (decide (PySem.W.nsIn K mainGlobals "_is_program" = some (some (.ref (He.ga K "_is_program")))))))))))))))))))))))
def exl10 (K : PySem.W.Frag) : Bool := decide (PySem.W.nsIn K mainGlobals "_is_edition" = some (some (.ref (He.ga K "_is_edition")))) && (decide (PySem.W.nsIn K mainGlobals "_are_rows" = some (some (.ref (He.ga K "_are_rows")))) && (decide (PySem.W.nsIn K mainGlobals "_is_read" = some (some (.ref (He.ga K "_is_read")))) && (decide (PySem.W.nsIn K mainGlobals "_is_write" = some (some (.ref (He.ga K "_is_write")))) && (decide (PySem.W.nsIn K mainGlobals "_is_first_edition" = some (some (.ref (He.ga K "_is_first_edition")))) && (decide (PySem.W.nsIn K mainGlobals "_many_in_two_events" = some (some (.ref (He.ga K "_many_in_two_events")))) && (decide (PySem.W.nsIn K mainGlobals "_law_pot_of" = some (some (.ref (He.ga K "_law_pot_of")))) && (decide (PySem.W.nsIn K mainGlobals "_law_take" = some (some (.ref (He.ga K "_law_take")))) && (decide (PySem.W.nsIn K mainGlobals "_law_of" = some (some (.ref (He.ga K "_law_of")))) && (decide (PySem.W.nsIn K mainGlobals "_law_hand_world" = some (some (.ref (He.ga K "_law_hand_world")))) && (decide (PySem.W.nsIn K mainGlobals "_law_names" = some (some (.ref (He.ga K "_law_names")))) && (decide (PySem.W.nsIn K mainGlobals "_law_refused" = some (some (.ref (He.ga K "_law_refused")))) && (decide (PySem.W.nsIn K mainGlobals "_law_releases_right" = some (some (.ref (He.ga K "_law_releases_right")))) && (decide (PySem.W.nsIn K mainGlobals "_law_sides_right" = some (some (.ref (He.ga K "_law_sides_right")))) && (decide (PySem.W.nsIn K mainGlobals "_law_numbers_right" = some (some (.ref (He.ga K "_law_numbers_right")))) && (decide (PySem.W.nsIn K mainGlobals "law" = some (some (.ref (He.ga K "law")))) && (decide (PySem.W.typeIn K (.ref (He.ma K (He.ga K "BadSpan") "__init__")) = some (.type "function")) && (decide (PySem.W.typeIn K (.ref (He.ma K (He.ga K "BadPlan") "__init__")) = some (.type "function")) && (decide (PySem.W.nsIn K mainGlobals "int" = some none) && (decide (PySem.W.nsIn K mainGlobals "len" = some none))))))))))))))))))))
def exl11 (K : PySem.W.Frag) : Bool := decide (PySem.W.nsIn K mainGlobals "abs" = some none) && (decide (PySem.W.nsIn K mainGlobals "bool" = some none) && (decide (PySem.W.nsIn K mainGlobals "tuple" = some none) && (decide (PySem.W.nsIn K mainGlobals "isinstance" = some none) && (decide (PySem.W.nsIn K mainGlobals "range" = some none) && (decide (PySem.W.nsIn K mainGlobals "max" = some none) && (decide (PySem.W.nsIn K mainGlobals "min" = some none) && (decide (PySem.W.nsIn K mainGlobals "all" = some none) && (decide (PySem.W.nsIn K mainGlobals "repr" = some none) && (decide (PySem.W.nsIn K mainGlobals "str" = some none) && (decide (PySem.W.nsIn K mainGlobals "any" = some none) && (decide (PySem.W.nsIn K mainGlobals "list" = some none) && (decide (PySem.W.nsIn K mainGlobals "zip" = some none) && (decide (PySem.W.nsIn K mainGlobals "enumerate" = some none))))))))))))))
def exl (K : PySem.W.Frag) : Bool := exl0 K && (exl1 K && (exl2 K && (exl3 K && (exl4 K && (exl5 K && (exl6 K && (exl7 K && (exl8 K && (exl9 K && (exl10 K && (exl11 K)))))))))))
theorem exg0 {K : PySem.W.Frag} (h : exl K = true) : exl0 K = true := (He.ba h).1
theorem ex_0 {K : PySem.W.Frag} (h : exl K = true) : (decide (PySem.W.nsIn K mainGlobals "WidthError" = some (some (.ref (He.ga K "WidthError"))))) = true := (He.ba (exg0 h)).1
theorem ex_1 {K : PySem.W.Frag} (h : exl K = true) : (decide (PySem.W.subIn K (.ref (He.ga K "WidthError")) (.type "BaseException") = some true)) = true := (He.ba (He.ba (exg0 h)).2).1
theorem ex_2 {K : PySem.W.Frag} (h : exl K = true) : (PySem.W.hasDictIn K (He.ga K "WidthError")) = true := (He.ba (He.ba (He.ba (exg0 h)).2).2).1
theorem ex_3 {K : PySem.W.Frag} (h : exl K = true) : (decide (PySem.W.typeIn K (.ref (He.ga K "WidthError")) = some (.type "type"))) = true := (He.ba (He.ba (He.ba (He.ba (exg0 h)).2).2).2).1
theorem ex_4 {K : PySem.W.Frag} (h : exl K = true) : (decide (PySem.W.specialIn K (.builtin "object.__class__") "__get__" = some (some (.builtin "getset_descriptor.__get__")))) = true := (He.ba (He.ba (He.ba (He.ba (He.ba (exg0 h)).2).2).2).2).1
theorem ex_5 {K : PySem.W.Frag} (h : exl K = true) : (decide (PySem.W.takesIn K (.builtin "object.__class__") = some true)) = true := (He.ba (He.ba (He.ba (He.ba (He.ba (He.ba (exg0 h)).2).2).2).2).2).1
theorem ex_6 {K : PySem.W.Frag} (h : exl K = true) : (decide (PySem.W.nsIn K mainGlobals "ValueError" = some none)) = true := (He.ba (He.ba (He.ba (He.ba (He.ba (He.ba (He.ba (exg0 h)).2).2).2).2).2).2).1
theorem ex_7 {K : PySem.W.Frag} (h : exl K = true) : (decide (PySem.W.nsIn K mainGlobals "BadSpan" = some (some (.ref (He.ga K "BadSpan"))))) = true := (He.ba (He.ba (He.ba (He.ba (He.ba (He.ba (He.ba (He.ba (exg0 h)).2).2).2).2).2).2).2).1
theorem ex_8 {K : PySem.W.Frag} (h : exl K = true) : (oexB K (He.ga K "BadSpan") (He.ga K "WidthError")) = true := (He.ba (He.ba (He.ba (He.ba (He.ba (He.ba (He.ba (He.ba (He.ba (exg0 h)).2).2).2).2).2).2).2).2).1
theorem ex_9 {K : PySem.W.Frag} (h : exl K = true) : (decide (PySem.W.findIn K (.ref (He.ga K "BadSpan")) "__setattr__" = some (some (.builtin "object.__setattr__")))) = true := (He.ba (He.ba (He.ba (He.ba (He.ba (He.ba (He.ba (He.ba (He.ba (He.ba (exg0 h)).2).2).2).2).2).2).2).2).2).1
theorem ex_10 {K : PySem.W.Frag} (h : exl K = true) : (decide (PySem.W.findIn K (.ref (He.ga K "BadSpan")) "__getattribute__" = some (some (.builtin "BaseException.__getattribute__")))) = true := (He.ba (He.ba (He.ba (He.ba (He.ba (He.ba (He.ba (He.ba (He.ba (He.ba (He.ba (exg0 h)).2).2).2).2).2).2).2).2).2).2).1
theorem ex_11 {K : PySem.W.Frag} (h : exl K = true) : (decide (PySem.W.findIn K (.ref (He.ga K "BadSpan")) "__getattr__" = some none)) = true := (He.ba (He.ba (He.ba (He.ba (He.ba (He.ba (He.ba (He.ba (He.ba (He.ba (He.ba (He.ba (exg0 h)).2).2).2).2).2).2).2).2).2).2).2).1
theorem ex_12 {K : PySem.W.Frag} (h : exl K = true) : (PySem.W.keepIn K (.ref (He.ga K "BadSpan"))) = true := (He.ba (He.ba (He.ba (He.ba (He.ba (He.ba (He.ba (He.ba (He.ba (He.ba (He.ba (He.ba (He.ba (exg0 h)).2).2).2).2).2).2).2).2).2).2).2).2).1
theorem ex_13 {K : PySem.W.Frag} (h : exl K = true) : (decide (PySem.W.subIn K (.ref (He.ga K "BadSpan")) (.type "BaseException") = some true)) = true := (He.ba (He.ba (He.ba (He.ba (He.ba (He.ba (He.ba (He.ba (He.ba (He.ba (He.ba (He.ba (He.ba (He.ba (exg0 h)).2).2).2).2).2).2).2).2).2).2).2).2).2).1
theorem ex_14 {K : PySem.W.Frag} (h : exl K = true) : (decide (PySem.W.typeIn K (.ref (He.ga K "BadSpan")) = some (.type "type"))) = true := (He.ba (He.ba (He.ba (He.ba (He.ba (He.ba (He.ba (He.ba (He.ba (He.ba (He.ba (He.ba (He.ba (He.ba (He.ba (exg0 h)).2).2).2).2).2).2).2).2).2).2).2).2).2).2).1
theorem ex_15 {K : PySem.W.Frag} (h : exl K = true) : (PySem.W.hasDictIn K (He.ga K "BadSpan")) = true := (He.ba (He.ba (He.ba (He.ba (He.ba (He.ba (He.ba (He.ba (He.ba (He.ba (He.ba (He.ba (He.ba (He.ba (He.ba (He.ba (exg0 h)).2).2).2).2).2).2).2).2).2).2).2).2).2).2).2).1
theorem ex_16 {K : PySem.W.Frag} (h : exl K = true) : (decide (PySem.W.findIn K (.ref (He.ga K "BadSpan")) "__class__" = some (some (.builtin "object.__class__")))) = true := (He.ba (He.ba (He.ba (He.ba (He.ba (He.ba (He.ba (He.ba (He.ba (He.ba (He.ba (He.ba (He.ba (He.ba (He.ba (He.ba (He.ba (exg0 h)).2).2).2).2).2).2).2).2).2).2).2).2).2).2).2).2).1
theorem ex_17 {K : PySem.W.Frag} (h : exl K = true) : (decide (PySem.W.mroIn K (He.ga K "BadSpan") (.type "object") = some true)) = true := (He.ba (He.ba (He.ba (He.ba (He.ba (He.ba (He.ba (He.ba (He.ba (He.ba (He.ba (He.ba (He.ba (He.ba (He.ba (He.ba (He.ba (He.ba (exg0 h)).2).2).2).2).2).2).2).2).2).2).2).2).2).2).2).2).2).1
theorem ex_18 {K : PySem.W.Frag} (h : exl K = true) : (decide (PySem.W.subIn K (.ref (He.ga K "BadSpan")) (.type "ValueError") = some true)) = true := (He.ba (He.ba (He.ba (He.ba (He.ba (He.ba (He.ba (He.ba (He.ba (He.ba (He.ba (He.ba (He.ba (He.ba (He.ba (He.ba (He.ba (He.ba (He.ba (exg0 h)).2).2).2).2).2).2).2).2).2).2).2).2).2).2).2).2).2).2).1
theorem ex_19 {K : PySem.W.Frag} (h : exl K = true) : (decide (PySem.W.subIn K (.ref (He.ga K "BadSpan")) (.ref (He.ga K "WidthError")) = some true)) = true := (He.ba (He.ba (He.ba (He.ba (He.ba (He.ba (He.ba (He.ba (He.ba (He.ba (He.ba (He.ba (He.ba (He.ba (He.ba (He.ba (He.ba (He.ba (He.ba (exg0 h)).2).2).2).2).2).2).2).2).2).2).2).2).2).2).2).2).2).2).2
theorem exg1 {K : PySem.W.Frag} (h : exl K = true) : exl1 K = true := (He.ba (He.ba h).2).1
theorem ex_20 {K : PySem.W.Frag} (h : exl K = true) : (decide (PySem.W.findIn K (.ref (He.ga K "BadSpan")) "value" = some none)) = true := (He.ba (exg1 h)).1
theorem ex_21 {K : PySem.W.Frag} (h : exl K = true) : (decide (PySem.W.nsIn K mainGlobals "BadPlan" = some (some (.ref (He.ga K "BadPlan"))))) = true := (He.ba (He.ba (exg1 h)).2).1
theorem ex_22 {K : PySem.W.Frag} (h : exl K = true) : (oexB K (He.ga K "BadPlan") (He.ga K "WidthError")) = true := (He.ba (He.ba (He.ba (exg1 h)).2).2).1
theorem ex_23 {K : PySem.W.Frag} (h : exl K = true) : (decide (PySem.W.findIn K (.ref (He.ga K "BadPlan")) "__setattr__" = some (some (.builtin "object.__setattr__")))) = true := (He.ba (He.ba (He.ba (He.ba (exg1 h)).2).2).2).1
theorem ex_24 {K : PySem.W.Frag} (h : exl K = true) : (decide (PySem.W.findIn K (.ref (He.ga K "BadPlan")) "__getattribute__" = some (some (.builtin "BaseException.__getattribute__")))) = true := (He.ba (He.ba (He.ba (He.ba (He.ba (exg1 h)).2).2).2).2).1
theorem ex_25 {K : PySem.W.Frag} (h : exl K = true) : (decide (PySem.W.findIn K (.ref (He.ga K "BadPlan")) "__getattr__" = some none)) = true := (He.ba (He.ba (He.ba (He.ba (He.ba (He.ba (exg1 h)).2).2).2).2).2).1
theorem ex_26 {K : PySem.W.Frag} (h : exl K = true) : (PySem.W.keepIn K (.ref (He.ga K "BadPlan"))) = true := (He.ba (He.ba (He.ba (He.ba (He.ba (He.ba (He.ba (exg1 h)).2).2).2).2).2).2).1
theorem ex_27 {K : PySem.W.Frag} (h : exl K = true) : (decide (PySem.W.subIn K (.ref (He.ga K "BadPlan")) (.type "BaseException") = some true)) = true := (He.ba (He.ba (He.ba (He.ba (He.ba (He.ba (He.ba (He.ba (exg1 h)).2).2).2).2).2).2).2).1
theorem ex_28 {K : PySem.W.Frag} (h : exl K = true) : (decide (PySem.W.typeIn K (.ref (He.ga K "BadPlan")) = some (.type "type"))) = true := (He.ba (He.ba (He.ba (He.ba (He.ba (He.ba (He.ba (He.ba (He.ba (exg1 h)).2).2).2).2).2).2).2).2).1
theorem ex_29 {K : PySem.W.Frag} (h : exl K = true) : (PySem.W.hasDictIn K (He.ga K "BadPlan")) = true := (He.ba (He.ba (He.ba (He.ba (He.ba (He.ba (He.ba (He.ba (He.ba (He.ba (exg1 h)).2).2).2).2).2).2).2).2).2).1
theorem ex_30 {K : PySem.W.Frag} (h : exl K = true) : (decide (PySem.W.findIn K (.ref (He.ga K "BadPlan")) "__class__" = some (some (.builtin "object.__class__")))) = true := (He.ba (He.ba (He.ba (He.ba (He.ba (He.ba (He.ba (He.ba (He.ba (He.ba (He.ba (exg1 h)).2).2).2).2).2).2).2).2).2).2).1
theorem ex_31 {K : PySem.W.Frag} (h : exl K = true) : (decide (PySem.W.mroIn K (He.ga K "BadPlan") (.type "object") = some true)) = true := (He.ba (He.ba (He.ba (He.ba (He.ba (He.ba (He.ba (He.ba (He.ba (He.ba (He.ba (He.ba (exg1 h)).2).2).2).2).2).2).2).2).2).2).2).1
theorem ex_32 {K : PySem.W.Frag} (h : exl K = true) : (decide (PySem.W.subIn K (.ref (He.ga K "BadPlan")) (.type "ValueError") = some true)) = true := (He.ba (He.ba (He.ba (He.ba (He.ba (He.ba (He.ba (He.ba (He.ba (He.ba (He.ba (He.ba (He.ba (exg1 h)).2).2).2).2).2).2).2).2).2).2).2).2).1
theorem ex_33 {K : PySem.W.Frag} (h : exl K = true) : (decide (PySem.W.subIn K (.ref (He.ga K "BadPlan")) (.ref (He.ga K "WidthError")) = some true)) = true := (He.ba (He.ba (He.ba (He.ba (He.ba (He.ba (He.ba (He.ba (He.ba (He.ba (He.ba (He.ba (He.ba (He.ba (exg1 h)).2).2).2).2).2).2).2).2).2).2).2).2).2).1
theorem ex_34 {K : PySem.W.Frag} (h : exl K = true) : (decide (PySem.W.findIn K (.ref (He.ga K "BadPlan")) "index" = some none)) = true := (He.ba (He.ba (He.ba (He.ba (He.ba (He.ba (He.ba (He.ba (He.ba (He.ba (He.ba (He.ba (He.ba (He.ba (He.ba (exg1 h)).2).2).2).2).2).2).2).2).2).2).2).2).2).2).1
theorem ex_35 {K : PySem.W.Frag} (h : exl K = true) : (decide (PySem.W.nsIn K mainGlobals "World" = some (some (.ref (He.ga K "World"))))) = true := (He.ba (He.ba (He.ba (He.ba (He.ba (He.ba (He.ba (He.ba (He.ba (He.ba (He.ba (He.ba (He.ba (He.ba (He.ba (He.ba (exg1 h)).2).2).2).2).2).2).2).2).2).2).2).2).2).2).2).1
theorem ex_36 {K : PySem.W.Frag} (h : exl K = true) : (PySem.W.plainGet K (He.ga K "World") Str.empty) = true := (He.ba (He.ba (He.ba (He.ba (He.ba (He.ba (He.ba (He.ba (He.ba (He.ba (He.ba (He.ba (He.ba (He.ba (He.ba (He.ba (He.ba (exg1 h)).2).2).2).2).2).2).2).2).2).2).2).2).2).2).2).2).1
theorem ex_37 {K : PySem.W.Frag} (h : exl K = true) : (PySem.W.hasDictIn K (He.ga K "World")) = true := (He.ba (He.ba (He.ba (He.ba (He.ba (He.ba (He.ba (He.ba (He.ba (He.ba (He.ba (He.ba (He.ba (He.ba (He.ba (He.ba (He.ba (He.ba (exg1 h)).2).2).2).2).2).2).2).2).2).2).2).2).2).2).2).2).2).1
theorem ex_38 {K : PySem.W.Frag} (h : exl K = true) : (PySem.W.plainOver K (He.ga K "World")) = true := (He.ba (He.ba (He.ba (He.ba (He.ba (He.ba (He.ba (He.ba (He.ba (He.ba (He.ba (He.ba (He.ba (He.ba (He.ba (He.ba (He.ba (He.ba (He.ba (exg1 h)).2).2).2).2).2).2).2).2).2).2).2).2).2).2).2).2).2).2).1
theorem ex_39 {K : PySem.W.Frag} (h : exl K = true) : (decide (PySem.W.findIn K (.ref (He.ga K "World")) "__setattr__" = some (some (.builtin "object.__setattr__")))) = true := (He.ba (He.ba (He.ba (He.ba (He.ba (He.ba (He.ba (He.ba (He.ba (He.ba (He.ba (He.ba (He.ba (He.ba (He.ba (He.ba (He.ba (He.ba (He.ba (exg1 h)).2).2).2).2).2).2).2).2).2).2).2).2).2).2).2).2).2).2).2
theorem exg2 {K : PySem.W.Frag} (h : exl K = true) : exl2 K = true := (He.ba (He.ba (He.ba h).2).2).1
theorem ex_40 {K : PySem.W.Frag} (h : exl K = true) : (PySem.W.makesIn K (He.ga K "World")) = true := (He.ba (exg2 h)).1
theorem ex_41 {K : PySem.W.Frag} (h : exl K = true) : (PySem.W.keepIn K (.ref (He.ga K "World"))) = true := (He.ba (He.ba (exg2 h)).2).1
theorem ex_42 {K : PySem.W.Frag} (h : exl K = true) : (decide (PySem.W.findIn K (.ref (He.ga K "World")) "__class__" = some (some (.builtin "object.__class__")))) = true := (He.ba (He.ba (He.ba (exg2 h)).2).2).1
theorem ex_43 {K : PySem.W.Frag} (h : exl K = true) : (decide (PySem.W.mroIn K (He.ga K "World") (.type "object") = some true)) = true := (He.ba (He.ba (He.ba (He.ba (exg2 h)).2).2).2).1
theorem ex_44 {K : PySem.W.Frag} (h : exl K = true) : (decide (PySem.W.findIn K (.ref (He.ga K "World")) "narrow" = some none)) = true := (He.ba (He.ba (He.ba (He.ba (He.ba (exg2 h)).2).2).2).2).1
theorem ex_45 {K : PySem.W.Frag} (h : exl K = true) : (decide (PySem.W.findIn K (.ref (He.ga K "World")) "wide" = some none)) = true := (He.ba (He.ba (He.ba (He.ba (He.ba (He.ba (exg2 h)).2).2).2).2).2).1
theorem ex_46 {K : PySem.W.Frag} (h : exl K = true) : (decide (PySem.W.findIn K (.ref (He.ga K "World")) "columns" = some none)) = true := (He.ba (He.ba (He.ba (He.ba (He.ba (He.ba (He.ba (exg2 h)).2).2).2).2).2).2).1
theorem ex_47 {K : PySem.W.Frag} (h : exl K = true) : (decide (PySem.W.findIn K (.ref (He.ga K "World")) "programs" = some none)) = true := (He.ba (He.ba (He.ba (He.ba (He.ba (He.ba (He.ba (He.ba (exg2 h)).2).2).2).2).2).2).2).1
theorem ex_48 {K : PySem.W.Frag} (h : exl K = true) : (decide (PySem.W.nsIn K mainGlobals "Kind" = some (some (.ref (He.ga K "Kind"))))) = true := (He.ba (He.ba (He.ba (He.ba (He.ba (He.ba (He.ba (He.ba (He.ba (exg2 h)).2).2).2).2).2).2).2).2).1
theorem ex_49 {K : PySem.W.Frag} (h : exl K = true) : (PySem.W.plainGet K (He.ga K "Kind") Str.empty) = true := (He.ba (He.ba (He.ba (He.ba (He.ba (He.ba (He.ba (He.ba (He.ba (He.ba (exg2 h)).2).2).2).2).2).2).2).2).2).1
theorem ex_50 {K : PySem.W.Frag} (h : exl K = true) : (PySem.W.hasDictIn K (He.ga K "Kind")) = true := (He.ba (He.ba (He.ba (He.ba (He.ba (He.ba (He.ba (He.ba (He.ba (He.ba (He.ba (exg2 h)).2).2).2).2).2).2).2).2).2).2).1
theorem ex_51 {K : PySem.W.Frag} (h : exl K = true) : (PySem.W.plainOver K (He.ga K "Kind")) = true := (He.ba (He.ba (He.ba (He.ba (He.ba (He.ba (He.ba (He.ba (He.ba (He.ba (He.ba (He.ba (exg2 h)).2).2).2).2).2).2).2).2).2).2).2).1
theorem ex_52 {K : PySem.W.Frag} (h : exl K = true) : (decide (PySem.W.findIn K (.ref (He.ga K "Kind")) "__setattr__" = some (some (.builtin "object.__setattr__")))) = true := (He.ba (He.ba (He.ba (He.ba (He.ba (He.ba (He.ba (He.ba (He.ba (He.ba (He.ba (He.ba (He.ba (exg2 h)).2).2).2).2).2).2).2).2).2).2).2).2).1
theorem ex_53 {K : PySem.W.Frag} (h : exl K = true) : (PySem.W.makesIn K (He.ga K "Kind")) = true := (He.ba (He.ba (He.ba (He.ba (He.ba (He.ba (He.ba (He.ba (He.ba (He.ba (He.ba (He.ba (He.ba (He.ba (exg2 h)).2).2).2).2).2).2).2).2).2).2).2).2).2).1
theorem ex_54 {K : PySem.W.Frag} (h : exl K = true) : (PySem.W.keepIn K (.ref (He.ga K "Kind"))) = true := (He.ba (He.ba (He.ba (He.ba (He.ba (He.ba (He.ba (He.ba (He.ba (He.ba (He.ba (He.ba (He.ba (He.ba (He.ba (exg2 h)).2).2).2).2).2).2).2).2).2).2).2).2).2).2).1
theorem ex_55 {K : PySem.W.Frag} (h : exl K = true) : (decide (PySem.W.findIn K (.ref (He.ga K "Kind")) "__class__" = some (some (.builtin "object.__class__")))) = true := (He.ba (He.ba (He.ba (He.ba (He.ba (He.ba (He.ba (He.ba (He.ba (He.ba (He.ba (He.ba (He.ba (He.ba (He.ba (He.ba (exg2 h)).2).2).2).2).2).2).2).2).2).2).2).2).2).2).2).1
theorem ex_56 {K : PySem.W.Frag} (h : exl K = true) : (decide (PySem.W.mroIn K (He.ga K "Kind") (.type "object") = some true)) = true := (He.ba (He.ba (He.ba (He.ba (He.ba (He.ba (He.ba (He.ba (He.ba (He.ba (He.ba (He.ba (He.ba (He.ba (He.ba (He.ba (He.ba (exg2 h)).2).2).2).2).2).2).2).2).2).2).2).2).2).2).2).2).1
theorem ex_57 {K : PySem.W.Frag} (h : exl K = true) : (decide (PySem.W.findIn K (.ref (He.ga K "Kind")) "low" = some none)) = true := (He.ba (He.ba (He.ba (He.ba (He.ba (He.ba (He.ba (He.ba (He.ba (He.ba (He.ba (He.ba (He.ba (He.ba (He.ba (He.ba (He.ba (He.ba (exg2 h)).2).2).2).2).2).2).2).2).2).2).2).2).2).2).2).2).2).1
theorem ex_58 {K : PySem.W.Frag} (h : exl K = true) : (decide (PySem.W.findIn K (.ref (He.ga K "Kind")) "high" = some none)) = true := (He.ba (He.ba (He.ba (He.ba (He.ba (He.ba (He.ba (He.ba (He.ba (He.ba (He.ba (He.ba (He.ba (He.ba (He.ba (He.ba (He.ba (He.ba (He.ba (exg2 h)).2).2).2).2).2).2).2).2).2).2).2).2).2).2).2).2).2).2).1
theorem ex_59 {K : PySem.W.Frag} (h : exl K = true) : (decide (PySem.W.findIn K (.ref (He.ga K "Kind")) "size" = some none)) = true := (He.ba (He.ba (He.ba (He.ba (He.ba (He.ba (He.ba (He.ba (He.ba (He.ba (He.ba (He.ba (He.ba (He.ba (He.ba (He.ba (He.ba (He.ba (He.ba (exg2 h)).2).2).2).2).2).2).2).2).2).2).2).2).2).2).2).2).2).2).2
theorem exg3 {K : PySem.W.Frag} (h : exl K = true) : exl3 K = true := (He.ba (He.ba (He.ba (He.ba h).2).2).2).1
theorem ex_60 {K : PySem.W.Frag} (h : exl K = true) : (decide (PySem.W.nsIn K mainGlobals "Setup" = some (some (.ref (He.ga K "Setup"))))) = true := (He.ba (exg3 h)).1
theorem ex_61 {K : PySem.W.Frag} (h : exl K = true) : (PySem.W.plainGet K (He.ga K "Setup") Str.empty) = true := (He.ba (He.ba (exg3 h)).2).1
theorem ex_62 {K : PySem.W.Frag} (h : exl K = true) : (PySem.W.hasDictIn K (He.ga K "Setup")) = true := (He.ba (He.ba (He.ba (exg3 h)).2).2).1
theorem ex_63 {K : PySem.W.Frag} (h : exl K = true) : (PySem.W.plainOver K (He.ga K "Setup")) = true := (He.ba (He.ba (He.ba (He.ba (exg3 h)).2).2).2).1
theorem ex_64 {K : PySem.W.Frag} (h : exl K = true) : (decide (PySem.W.findIn K (.ref (He.ga K "Setup")) "__setattr__" = some (some (.builtin "object.__setattr__")))) = true := (He.ba (He.ba (He.ba (He.ba (He.ba (exg3 h)).2).2).2).2).1
theorem ex_65 {K : PySem.W.Frag} (h : exl K = true) : (PySem.W.makesIn K (He.ga K "Setup")) = true := (He.ba (He.ba (He.ba (He.ba (He.ba (He.ba (exg3 h)).2).2).2).2).2).1
theorem ex_66 {K : PySem.W.Frag} (h : exl K = true) : (PySem.W.keepIn K (.ref (He.ga K "Setup"))) = true := (He.ba (He.ba (He.ba (He.ba (He.ba (He.ba (He.ba (exg3 h)).2).2).2).2).2).2).1
theorem ex_67 {K : PySem.W.Frag} (h : exl K = true) : (decide (PySem.W.findIn K (.ref (He.ga K "Setup")) "__class__" = some (some (.builtin "object.__class__")))) = true := (He.ba (He.ba (He.ba (He.ba (He.ba (He.ba (He.ba (He.ba (exg3 h)).2).2).2).2).2).2).2).1
theorem ex_68 {K : PySem.W.Frag} (h : exl K = true) : (decide (PySem.W.mroIn K (He.ga K "Setup") (.type "object") = some true)) = true := (He.ba (He.ba (He.ba (He.ba (He.ba (He.ba (He.ba (He.ba (He.ba (exg3 h)).2).2).2).2).2).2).2).2).1
theorem ex_69 {K : PySem.W.Frag} (h : exl K = true) : (decide (PySem.W.findIn K (.ref (He.ga K "Setup")) "world" = some none)) = true := (He.ba (He.ba (He.ba (He.ba (He.ba (He.ba (He.ba (He.ba (He.ba (He.ba (exg3 h)).2).2).2).2).2).2).2).2).2).1
theorem ex_70 {K : PySem.W.Frag} (h : exl K = true) : (decide (PySem.W.findIn K (.ref (He.ga K "Setup")) "editions" = some none)) = true := (He.ba (He.ba (He.ba (He.ba (He.ba (He.ba (He.ba (He.ba (He.ba (He.ba (He.ba (exg3 h)).2).2).2).2).2).2).2).2).2).2).1
theorem ex_71 {K : PySem.W.Frag} (h : exl K = true) : (decide (PySem.W.findIn K (.ref (He.ga K "Setup")) "sides" = some none)) = true := (He.ba (He.ba (He.ba (He.ba (He.ba (He.ba (He.ba (He.ba (He.ba (He.ba (He.ba (He.ba (exg3 h)).2).2).2).2).2).2).2).2).2).2).2).1
theorem ex_72 {K : PySem.W.Frag} (h : exl K = true) : (decide (PySem.W.findIn K (.ref (He.ga K "Setup")) "ups" = some none)) = true := (He.ba (He.ba (He.ba (He.ba (He.ba (He.ba (He.ba (He.ba (He.ba (He.ba (He.ba (He.ba (He.ba (exg3 h)).2).2).2).2).2).2).2).2).2).2).2).2).1
theorem ex_73 {K : PySem.W.Frag} (h : exl K = true) : (decide (PySem.W.findIn K (.ref (He.ga K "Setup")) "downs" = some none)) = true := (He.ba (He.ba (He.ba (He.ba (He.ba (He.ba (He.ba (He.ba (He.ba (He.ba (He.ba (He.ba (He.ba (He.ba (exg3 h)).2).2).2).2).2).2).2).2).2).2).2).2).2).1
theorem ex_74 {K : PySem.W.Frag} (h : exl K = true) : (decide (PySem.W.findIn K (.ref (He.ga K "Setup")) "going" = some none)) = true := (He.ba (He.ba (He.ba (He.ba (He.ba (He.ba (He.ba (He.ba (He.ba (He.ba (He.ba (He.ba (He.ba (He.ba (He.ba (exg3 h)).2).2).2).2).2).2).2).2).2).2).2).2).2).2).1
theorem ex_75 {K : PySem.W.Frag} (h : exl K = true) : (decide (PySem.W.findIn K (.ref (He.ga K "Setup")) "span" = some none)) = true := (He.ba (He.ba (He.ba (He.ba (He.ba (He.ba (He.ba (He.ba (He.ba (He.ba (He.ba (He.ba (He.ba (He.ba (He.ba (He.ba (exg3 h)).2).2).2).2).2).2).2).2).2).2).2).2).2).2).2).1
theorem ex_76 {K : PySem.W.Frag} (h : exl K = true) : (decide (PySem.W.findIn K (.ref (He.ga K "Setup")) "lasts" = some none)) = true := (He.ba (He.ba (He.ba (He.ba (He.ba (He.ba (He.ba (He.ba (He.ba (He.ba (He.ba (He.ba (He.ba (He.ba (He.ba (He.ba (He.ba (exg3 h)).2).2).2).2).2).2).2).2).2).2).2).2).2).2).2).2).1
theorem ex_77 {K : PySem.W.Frag} (h : exl K = true) : (numB K "MOST_LETTERS" 8) = true := (He.ba (He.ba (He.ba (He.ba (He.ba (He.ba (He.ba (He.ba (He.ba (He.ba (He.ba (He.ba (He.ba (He.ba (He.ba (He.ba (He.ba (He.ba (exg3 h)).2).2).2).2).2).2).2).2).2).2).2).2).2).2).2).2).2).1
theorem ex_78 {K : PySem.W.Frag} (h : exl K = true) : (numB K "MOST_STEPS" 14) = true := (He.ba (He.ba (He.ba (He.ba (He.ba (He.ba (He.ba (He.ba (He.ba (He.ba (He.ba (He.ba (He.ba (He.ba (He.ba (He.ba (He.ba (He.ba (He.ba (exg3 h)).2).2).2).2).2).2).2).2).2).2).2).2).2).2).2).2).2).2).1
theorem ex_79 {K : PySem.W.Frag} (h : exl K = true) : (numB K "LEAST_NUMBERS" 16) = true := (He.ba (He.ba (He.ba (He.ba (He.ba (He.ba (He.ba (He.ba (He.ba (He.ba (He.ba (He.ba (He.ba (He.ba (He.ba (He.ba (He.ba (He.ba (He.ba (exg3 h)).2).2).2).2).2).2).2).2).2).2).2).2).2).2).2).2).2).2).2
theorem exg4 {K : PySem.W.Frag} (h : exl K = true) : exl4 K = true := (He.ba (He.ba (He.ba (He.ba (He.ba h).2).2).2).2).1
theorem ex_80 {K : PySem.W.Frag} (h : exl K = true) : (numB K "LEAST_NARROW" 16) = true := (He.ba (exg4 h)).1
theorem ex_81 {K : PySem.W.Frag} (h : exl K = true) : (numB K "MOST_PACE" 99) = true := (He.ba (He.ba (exg4 h)).2).1
theorem ex_82 {K : PySem.W.Frag} (h : exl K = true) : (numB K "MOST_IN_TWO_EVENTS" 2) = true := (He.ba (He.ba (He.ba (exg4 h)).2).2).1
theorem ex_83 {K : PySem.W.Frag} (h : exl K = true) : (decide (PySem.W.nsIn K mainGlobals "SIDES" = some (some (.ref (He.ga K "SIDES"))))) = true := (He.ba (He.ba (He.ba (He.ba (exg4 h)).2).2).2).1
theorem ex_84 {K : PySem.W.Frag} (h : exl K = true) : (decide (tupW K (He.ga K "SIDES") = some (["narrow", "wide"] : List Str))) = true := (He.ba (He.ba (He.ba (He.ba (He.ba (exg4 h)).2).2).2).2).1
theorem ex_85 {K : PySem.W.Frag} (h : exl K = true) : (decide (PySem.W.nsIn K mainGlobals "RULES" = some (some (.ref (He.ga K "RULES"))))) = true := (He.ba (He.ba (He.ba (He.ba (He.ba (He.ba (exg4 h)).2).2).2).2).2).1
theorem ex_86 {K : PySem.W.Frag} (h : exl K = true) : (decide (tupW K (He.ga K "RULES") = some (["cut", "empty", "refuse"] : List Str))) = true := (He.ba (He.ba (He.ba (He.ba (He.ba (He.ba (He.ba (exg4 h)).2).2).2).2).2).2).1
theorem ex_87 {K : PySem.W.Frag} (h : exl K = true) : (decide (PySem.W.nsIn K mainGlobals "MANNERS" = some (some (.ref (He.ga K "MANNERS"))))) = true := (He.ba (He.ba (He.ba (He.ba (He.ba (He.ba (He.ba (He.ba (exg4 h)).2).2).2).2).2).2).2).1
theorem ex_88 {K : PySem.W.Frag} (h : exl K = true) : (decide (tupW K (He.ga K "MANNERS") = some (["empty", "anew"] : List Str))) = true := (He.ba (He.ba (He.ba (He.ba (He.ba (He.ba (He.ba (He.ba (He.ba (exg4 h)).2).2).2).2).2).2).2).2).1
theorem ex_89 {K : PySem.W.Frag} (h : exl K = true) : (decide (PySem.W.nsIn K mainGlobals "FILLS" = some (some (.ref (He.ga K "FILLS"))))) = true := (He.ba (He.ba (He.ba (He.ba (He.ba (He.ba (He.ba (He.ba (He.ba (He.ba (exg4 h)).2).2).2).2).2).2).2).2).2).1
theorem ex_90 {K : PySem.W.Frag} (h : exl K = true) : (decide (tupW K (He.ga K "FILLS") = some (["fill", "fill back"] : List Str))) = true := (He.ba (He.ba (He.ba (He.ba (He.ba (He.ba (He.ba (He.ba (He.ba (He.ba (He.ba (exg4 h)).2).2).2).2).2).2).2).2).2).2).1
theorem ex_91 {K : PySem.W.Frag} (h : exl K = true) : (decide (PySem.W.nsIn K mainGlobals "DEEDS" = some (some (.ref (He.ga K "DEEDS"))))) = true := (He.ba (He.ba (He.ba (He.ba (He.ba (He.ba (He.ba (He.ba (He.ba (He.ba (He.ba (He.ba (exg4 h)).2).2).2).2).2).2).2).2).2).2).2).1
theorem ex_92 {K : PySem.W.Frag} (h : exl K = true) : (decide (tupW K (He.ga K "DEEDS") = some (["match", "order", "show"] : List Str))) = true := (He.ba (He.ba (He.ba (He.ba (He.ba (He.ba (He.ba (He.ba (He.ba (He.ba (He.ba (He.ba (He.ba (exg4 h)).2).2).2).2).2).2).2).2).2).2).2).2).1
theorem ex_93 {K : PySem.W.Frag} (h : exl K = true) : (decide (PySem.W.nsIn K mainGlobals "READ_SIDES" = some (some (.ref (He.ga K "READ_SIDES"))))) = true := (He.ba (He.ba (He.ba (He.ba (He.ba (He.ba (He.ba (He.ba (He.ba (He.ba (He.ba (He.ba (He.ba (He.ba (exg4 h)).2).2).2).2).2).2).2).2).2).2).2).2).2).1
theorem ex_94 {K : PySem.W.Frag} (h : exl K = true) : (decide (tupW K (He.ga K "READ_SIDES") = some (["narrow", "wide", "either"] : List Str))) = true := (He.ba (He.ba (He.ba (He.ba (He.ba (He.ba (He.ba (He.ba (He.ba (He.ba (He.ba (He.ba (He.ba (He.ba (He.ba (exg4 h)).2).2).2).2).2).2).2).2).2).2).2).2).2).2).1
theorem ex_95 {K : PySem.W.Frag} (h : exl K = true) : (decide (PySem.W.nsIn K mainGlobals "HOWS" = some (some (.ref (He.ga K "HOWS"))))) = true := (He.ba (He.ba (He.ba (He.ba (He.ba (He.ba (He.ba (He.ba (He.ba (He.ba (He.ba (He.ba (He.ba (He.ba (He.ba (He.ba (exg4 h)).2).2).2).2).2).2).2).2).2).2).2).2).2).2).2).1
theorem ex_96 {K : PySem.W.Frag} (h : exl K = true) : (decide (tupW K (He.ga K "HOWS") = some (["narrow", "wide", "both", "narrow first", "wide first"] : List Str))) = true := (He.ba (He.ba (He.ba (He.ba (He.ba (He.ba (He.ba (He.ba (He.ba (He.ba (He.ba (He.ba (He.ba (He.ba (He.ba (He.ba (He.ba (exg4 h)).2).2).2).2).2).2).2).2).2).2).2).2).2).2).2).2).1
theorem ex_97 {K : PySem.W.Frag} (h : exl K = true) : (decide (PySem.W.nsIn K mainGlobals "IN_TWO_EVENTS" = some (some (.ref (He.ga K "IN_TWO_EVENTS"))))) = true := (He.ba (He.ba (He.ba (He.ba (He.ba (He.ba (He.ba (He.ba (He.ba (He.ba (He.ba (He.ba (He.ba (He.ba (He.ba (He.ba (He.ba (He.ba (exg4 h)).2).2).2).2).2).2).2).2).2).2).2).2).2).2).2).2).2).1
theorem ex_98 {K : PySem.W.Frag} (h : exl K = true) : (decide (tupW K (He.ga K "IN_TWO_EVENTS") = some (["narrow first", "wide first"] : List Str))) = true := (He.ba (He.ba (He.ba (He.ba (He.ba (He.ba (He.ba (He.ba (He.ba (He.ba (He.ba (He.ba (He.ba (He.ba (He.ba (He.ba (He.ba (He.ba (He.ba (exg4 h)).2).2).2).2).2).2).2).2).2).2).2).2).2).2).2).2).2).2).1
theorem ex_99 {K : PySem.W.Frag} (h : exl K = true) : (decide (PySem.W.nsIn K mainGlobals "STEP_FORMS" = some (some (.ref (He.ga K "STEP_FORMS"))))) = true := (He.ba (He.ba (He.ba (He.ba (He.ba (He.ba (He.ba (He.ba (He.ba (He.ba (He.ba (He.ba (He.ba (He.ba (He.ba (He.ba (He.ba (He.ba (He.ba (exg4 h)).2).2).2).2).2).2).2).2).2).2).2).2).2).2).2).2).2).2).2
theorem exg5 {K : PySem.W.Frag} (h : exl K = true) : exl5 K = true := (He.ba (He.ba (He.ba (He.ba (He.ba (He.ba h).2).2).2).2).2).1
theorem ex_100 {K : PySem.W.Frag} (h : exl K = true) : (tabOk K (He.ga K "STEP_FORMS") t_STEP_FORMS) = true := (He.ba (exg5 h)).1
theorem ex_101 {K : PySem.W.Frag} (h : exl K = true) : (decide (PySem.W.nsIn K mainGlobals "POSSIBLE" = some (some (.ref (He.ga K "POSSIBLE"))))) = true := (He.ba (He.ba (exg5 h)).2).1
theorem ex_102 {K : PySem.W.Frag} (h : exl K = true) : (decide (PySem.W.nsIn K (He.ga K "POSSIBLE") "add" = some (some (.ref (He.ga K "_can_add"))))) = true := (He.ba (He.ba (He.ba (exg5 h)).2).2).1
theorem ex_103 {K : PySem.W.Frag} (h : exl K = true) : (decide (PySem.W.nsIn K (He.ga K "POSSIBLE") "drop" = some (some (.ref (He.ga K "_can_drop"))))) = true := (He.ba (He.ba (He.ba (He.ba (exg5 h)).2).2).2).1
theorem ex_104 {K : PySem.W.Frag} (h : exl K = true) : (decide (PySem.W.nsIn K (He.ga K "POSSIBLE") "up" = some (some (.ref (He.ga K "_can_mirror_up"))))) = true := (He.ba (He.ba (He.ba (He.ba (He.ba (exg5 h)).2).2).2).2).1
theorem ex_105 {K : PySem.W.Frag} (h : exl K = true) : (decide (PySem.W.nsIn K (He.ga K "POSSIBLE") "no up" = some (some (.ref (He.ga K "_is_up"))))) = true := (He.ba (He.ba (He.ba (He.ba (He.ba (He.ba (exg5 h)).2).2).2).2).2).1
theorem ex_106 {K : PySem.W.Frag} (h : exl K = true) : (decide (PySem.W.nsIn K (He.ga K "POSSIBLE") "down" = some (some (.ref (He.ga K "_can_mirror_down"))))) = true := (He.ba (He.ba (He.ba (He.ba (He.ba (He.ba (He.ba (exg5 h)).2).2).2).2).2).2).1
theorem ex_107 {K : PySem.W.Frag} (h : exl K = true) : (decide (PySem.W.nsIn K (He.ga K "POSSIBLE") "no down" = some (some (.ref (He.ga K "_is_down"))))) = true := (He.ba (He.ba (He.ba (He.ba (He.ba (He.ba (He.ba (He.ba (exg5 h)).2).2).2).2).2).2).2).1
theorem ex_108 {K : PySem.W.Frag} (h : exl K = true) : (decide (PySem.W.nsIn K (He.ga K "POSSIBLE") "fill" = some (some (.ref (He.ga K "_has_both"))))) = true := (He.ba (He.ba (He.ba (He.ba (He.ba (He.ba (He.ba (He.ba (He.ba (exg5 h)).2).2).2).2).2).2).2).2).1
theorem ex_109 {K : PySem.W.Frag} (h : exl K = true) : (decide (PySem.W.nsIn K (He.ga K "POSSIBLE") "fill back" = some (some (.ref (He.ga K "_has_both"))))) = true := (He.ba (He.ba (He.ba (He.ba (He.ba (He.ba (He.ba (He.ba (He.ba (He.ba (exg5 h)).2).2).2).2).2).2).2).2).2).1
theorem ex_110 {K : PySem.W.Frag} (h : exl K = true) : (decide (PySem.W.nsIn K (He.ga K "POSSIBLE") "release" = some (some (.ref (He.ga K "_can_release"))))) = true := (He.ba (He.ba (He.ba (He.ba (He.ba (He.ba (He.ba (He.ba (He.ba (He.ba (He.ba (exg5 h)).2).2).2).2).2).2).2).2).2).2).1
theorem ex_111 {K : PySem.W.Frag} (h : exl K = true) : (decide (PySem.W.nsIn K (He.ga K "POSSIBLE") "withdraw" = some (some (.ref (He.ga K "_can_withdraw"))))) = true := (He.ba (He.ba (He.ba (He.ba (He.ba (He.ba (He.ba (He.ba (He.ba (He.ba (He.ba (He.ba (exg5 h)).2).2).2).2).2).2).2).2).2).2).2).1
theorem ex_112 {K : PySem.W.Frag} (h : exl K = true) : (decide (PySem.W.nsIn K (He.ga K "POSSIBLE") "grow" = some (some (.ref (He.ga K "_can_grow"))))) = true := (He.ba (He.ba (He.ba (He.ba (He.ba (He.ba (He.ba (He.ba (He.ba (He.ba (He.ba (He.ba (He.ba (exg5 h)).2).2).2).2).2).2).2).2).2).2).2).2).1
theorem ex_113 {K : PySem.W.Frag} (h : exl K = true) : (decide (PySem.W.nsIn K (He.ga K "POSSIBLE") "purge" = some (some (.ref (He.ga K "_can_purge"))))) = true := (He.ba (He.ba (He.ba (He.ba (He.ba (He.ba (He.ba (He.ba (He.ba (He.ba (He.ba (He.ba (He.ba (He.ba (exg5 h)).2).2).2).2).2).2).2).2).2).2).2).2).2).1
theorem ex_114 {K : PySem.W.Frag} (h : exl K = true) : (decide (PySem.W.nsIn K mainGlobals "CHANGES" = some (some (.ref (He.ga K "CHANGES"))))) = true := (He.ba (He.ba (He.ba (He.ba (He.ba (He.ba (He.ba (He.ba (He.ba (He.ba (He.ba (He.ba (He.ba (He.ba (He.ba (exg5 h)).2).2).2).2).2).2).2).2).2).2).2).2).2).2).1
theorem ex_115 {K : PySem.W.Frag} (h : exl K = true) : (decide (PySem.W.nsIn K (He.ga K "CHANGES") "add" = some (some (.ref (He.ga K "_add"))))) = true := (He.ba (He.ba (He.ba (He.ba (He.ba (He.ba (He.ba (He.ba (He.ba (He.ba (He.ba (He.ba (He.ba (He.ba (He.ba (He.ba (exg5 h)).2).2).2).2).2).2).2).2).2).2).2).2).2).2).2).1
theorem ex_116 {K : PySem.W.Frag} (h : exl K = true) : (decide (PySem.W.nsIn K (He.ga K "CHANGES") "drop" = some (some (.ref (He.ga K "_drop"))))) = true := (He.ba (He.ba (He.ba (He.ba (He.ba (He.ba (He.ba (He.ba (He.ba (He.ba (He.ba (He.ba (He.ba (He.ba (He.ba (He.ba (He.ba (exg5 h)).2).2).2).2).2).2).2).2).2).2).2).2).2).2).2).2).1
theorem ex_117 {K : PySem.W.Frag} (h : exl K = true) : (decide (PySem.W.nsIn K (He.ga K "CHANGES") "up" = some (some (.ref (He.ga K "_mirror_up"))))) = true := (He.ba (He.ba (He.ba (He.ba (He.ba (He.ba (He.ba (He.ba (He.ba (He.ba (He.ba (He.ba (He.ba (He.ba (He.ba (He.ba (He.ba (He.ba (exg5 h)).2).2).2).2).2).2).2).2).2).2).2).2).2).2).2).2).2).1
theorem ex_118 {K : PySem.W.Frag} (h : exl K = true) : (decide (PySem.W.nsIn K (He.ga K "CHANGES") "no up" = some (some (.ref (He.ga K "_end_up"))))) = true := (He.ba (He.ba (He.ba (He.ba (He.ba (He.ba (He.ba (He.ba (He.ba (He.ba (He.ba (He.ba (He.ba (He.ba (He.ba (He.ba (He.ba (He.ba (He.ba (exg5 h)).2).2).2).2).2).2).2).2).2).2).2).2).2).2).2).2).2).2).1
theorem ex_119 {K : PySem.W.Frag} (h : exl K = true) : (decide (PySem.W.nsIn K (He.ga K "CHANGES") "down" = some (some (.ref (He.ga K "_mirror_down"))))) = true := (He.ba (He.ba (He.ba (He.ba (He.ba (He.ba (He.ba (He.ba (He.ba (He.ba (He.ba (He.ba (He.ba (He.ba (He.ba (He.ba (He.ba (He.ba (He.ba (exg5 h)).2).2).2).2).2).2).2).2).2).2).2).2).2).2).2).2).2).2).2
theorem exg6 {K : PySem.W.Frag} (h : exl K = true) : exl6 K = true := (He.ba (He.ba (He.ba (He.ba (He.ba (He.ba (He.ba h).2).2).2).2).2).2).1
theorem ex_120 {K : PySem.W.Frag} (h : exl K = true) : (decide (PySem.W.nsIn K (He.ga K "CHANGES") "no down" = some (some (.ref (He.ga K "_end_down"))))) = true := (He.ba (exg6 h)).1
theorem ex_121 {K : PySem.W.Frag} (h : exl K = true) : (decide (PySem.W.nsIn K (He.ga K "CHANGES") "fill" = some (some (.ref (He.ga K "_go_on"))))) = true := (He.ba (He.ba (exg6 h)).2).1
theorem ex_122 {K : PySem.W.Frag} (h : exl K = true) : (decide (PySem.W.nsIn K (He.ga K "CHANGES") "fill back" = some (some (.ref (He.ga K "_go_on"))))) = true := (He.ba (He.ba (He.ba (exg6 h)).2).2).1
theorem ex_123 {K : PySem.W.Frag} (h : exl K = true) : (decide (PySem.W.nsIn K (He.ga K "CHANGES") "release" = some (some (.ref (He.ga K "_go_on"))))) = true := (He.ba (He.ba (He.ba (He.ba (exg6 h)).2).2).2).1
theorem ex_124 {K : PySem.W.Frag} (h : exl K = true) : (decide (PySem.W.nsIn K (He.ga K "CHANGES") "withdraw" = some (some (.ref (He.ga K "_go_on"))))) = true := (He.ba (He.ba (He.ba (He.ba (He.ba (exg6 h)).2).2).2).2).1
theorem ex_125 {K : PySem.W.Frag} (h : exl K = true) : (decide (PySem.W.nsIn K (He.ga K "CHANGES") "grow" = some (some (.ref (He.ga K "_grow"))))) = true := (He.ba (He.ba (He.ba (He.ba (He.ba (He.ba (exg6 h)).2).2).2).2).2).1
theorem ex_126 {K : PySem.W.Frag} (h : exl K = true) : (decide (PySem.W.nsIn K (He.ga K "CHANGES") "purge" = some (some (.ref (He.ga K "_purge"))))) = true := (He.ba (He.ba (He.ba (He.ba (He.ba (He.ba (He.ba (exg6 h)).2).2).2).2).2).2).1
theorem ex_127 {K : PySem.W.Frag} (h : exl K = true) : (decide (PySem.W.nsIn K mainGlobals "dict" = some none)) = true := (He.ba (He.ba (He.ba (He.ba (He.ba (He.ba (He.ba (He.ba (exg6 h)).2).2).2).2).2).2).2).1
theorem ex_128 {K : PySem.W.Frag} (h : exl K = true) : (decide (PySem.W.subIn K (.ref (He.ga K "BadSpan")) (.ref (He.ga K "BadSpan")) = some true)) = true := (He.ba (He.ba (He.ba (He.ba (He.ba (He.ba (He.ba (He.ba (He.ba (exg6 h)).2).2).2).2).2).2).2).2).1
theorem ex_129 {K : PySem.W.Frag} (h : exl K = true) : (decide (PySem.W.subIn K (.ref (He.ga K "BadPlan")) (.ref (He.ga K "BadPlan")) = some true)) = true := (He.ba (He.ba (He.ba (He.ba (He.ba (He.ba (He.ba (He.ba (He.ba (He.ba (exg6 h)).2).2).2).2).2).2).2).2).2).1
theorem ex_130 {K : PySem.W.Frag} (h : exl K = true) : (decide (PySem.W.nsIn K mainGlobals "editions_of" = some (some (.ref (He.ga K "editions_of"))))) = true := (He.ba (He.ba (He.ba (He.ba (He.ba (He.ba (He.ba (He.ba (He.ba (He.ba (He.ba (exg6 h)).2).2).2).2).2).2).2).2).2).2).1
theorem ex_131 {K : PySem.W.Frag} (h : exl K = true) : (decide (PySem.W.nsIn K mainGlobals "other_side" = some (some (.ref (He.ga K "other_side"))))) = true := (He.ba (He.ba (He.ba (He.ba (He.ba (He.ba (He.ba (He.ba (He.ba (He.ba (He.ba (He.ba (exg6 h)).2).2).2).2).2).2).2).2).2).2).2).1
theorem ex_132 {K : PySem.W.Frag} (h : exl K = true) : (decide (PySem.W.findIn K (.ref (He.ga K "BadSpan")) "__init__" = some (some (.ref (He.ma K (He.ga K "BadSpan") "__init__"))))) = true := (He.ba (He.ba (He.ba (He.ba (He.ba (He.ba (He.ba (He.ba (He.ba (He.ba (He.ba (He.ba (He.ba (exg6 h)).2).2).2).2).2).2).2).2).2).2).2).2).1
theorem ex_133 {K : PySem.W.Frag} (h : exl K = true) : (PySem.W.isFn K (.ref (He.ma K (He.ga K "BadSpan") "__init__"))) = true := (He.ba (He.ba (He.ba (He.ba (He.ba (He.ba (He.ba (He.ba (He.ba (He.ba (He.ba (He.ba (He.ba (He.ba (exg6 h)).2).2).2).2).2).2).2).2).2).2).2).2).2).1
theorem ex_134 {K : PySem.W.Frag} (h : exl K = true) : (decide (PySem.W.findIn K (.ref (He.ga K "BadPlan")) "__init__" = some (some (.ref (He.ma K (He.ga K "BadPlan") "__init__"))))) = true := (He.ba (He.ba (He.ba (He.ba (He.ba (He.ba (He.ba (He.ba (He.ba (He.ba (He.ba (He.ba (He.ba (He.ba (He.ba (exg6 h)).2).2).2).2).2).2).2).2).2).2).2).2).2).2).1
theorem ex_135 {K : PySem.W.Frag} (h : exl K = true) : (PySem.W.isFn K (.ref (He.ma K (He.ga K "BadPlan") "__init__"))) = true := (He.ba (He.ba (He.ba (He.ba (He.ba (He.ba (He.ba (He.ba (He.ba (He.ba (He.ba (He.ba (He.ba (He.ba (He.ba (He.ba (exg6 h)).2).2).2).2).2).2).2).2).2).2).2).2).2).2).2).1
theorem ex_136 {K : PySem.W.Frag} (h : exl K = true) : (decide (PySem.W.nsIn K mainGlobals "is_integer" = some (some (.ref (He.ga K "is_integer"))))) = true := (He.ba (He.ba (He.ba (He.ba (He.ba (He.ba (He.ba (He.ba (He.ba (He.ba (He.ba (He.ba (He.ba (He.ba (He.ba (He.ba (He.ba (exg6 h)).2).2).2).2).2).2).2).2).2).2).2).2).2).2).2).2).1
theorem ex_137 {K : PySem.W.Frag} (h : exl K = true) : (decide (PySem.W.nsIn K mainGlobals "is_between" = some (some (.ref (He.ga K "is_between"))))) = true := (He.ba (He.ba (He.ba (He.ba (He.ba (He.ba (He.ba (He.ba (He.ba (He.ba (He.ba (He.ba (He.ba (He.ba (He.ba (He.ba (He.ba (He.ba (exg6 h)).2).2).2).2).2).2).2).2).2).2).2).2).2).2).2).2).2).1
theorem ex_138 {K : PySem.W.Frag} (h : exl K = true) : (decide (PySem.W.nsIn K mainGlobals "lesser" = some (some (.ref (He.ga K "lesser"))))) = true := (He.ba (He.ba (He.ba (He.ba (He.ba (He.ba (He.ba (He.ba (He.ba (He.ba (He.ba (He.ba (He.ba (He.ba (He.ba (He.ba (He.ba (He.ba (He.ba (exg6 h)).2).2).2).2).2).2).2).2).2).2).2).2).2).2).2).2).2).2).1
theorem ex_139 {K : PySem.W.Frag} (h : exl K = true) : (decide (PySem.W.nsIn K mainGlobals "greater" = some (some (.ref (He.ga K "greater"))))) = true := (He.ba (He.ba (He.ba (He.ba (He.ba (He.ba (He.ba (He.ba (He.ba (He.ba (He.ba (He.ba (He.ba (He.ba (He.ba (He.ba (He.ba (He.ba (He.ba (exg6 h)).2).2).2).2).2).2).2).2).2).2).2).2).2).2).2).2).2).2).2
theorem exg7 {K : PySem.W.Frag} (h : exl K = true) : exl7 K = true := (He.ba (He.ba (He.ba (He.ba (He.ba (He.ba (He.ba (He.ba h).2).2).2).2).2).2).2).1
theorem ex_140 {K : PySem.W.Frag} (h : exl K = true) : (decide (PySem.W.nsIn K mainGlobals "is_name" = some (some (.ref (He.ga K "is_name"))))) = true := (He.ba (exg7 h)).1
theorem ex_141 {K : PySem.W.Frag} (h : exl K = true) : (decide (PySem.W.nsIn K mainGlobals "is_tuple_of" = some (some (.ref (He.ga K "is_tuple_of"))))) = true := (He.ba (He.ba (exg7 h)).2).1
theorem ex_142 {K : PySem.W.Frag} (h : exl K = true) : (decide (PySem.W.nsIn K mainGlobals "is_ascending" = some (some (.ref (He.ga K "is_ascending"))))) = true := (He.ba (He.ba (He.ba (exg7 h)).2).2).1
theorem ex_143 {K : PySem.W.Frag} (h : exl K = true) : (decide (PySem.W.nsIn K mainGlobals "step_form" = some (some (.ref (He.ga K "step_form"))))) = true := (He.ba (He.ba (He.ba (He.ba (exg7 h)).2).2).2).1
theorem ex_144 {K : PySem.W.Frag} (h : exl K = true) : (decide (PySem.W.nsIn K mainGlobals "is_plain_part" = some (some (.ref (He.ga K "is_plain_part"))))) = true := (He.ba (He.ba (He.ba (He.ba (He.ba (exg7 h)).2).2).2).2).1
theorem ex_145 {K : PySem.W.Frag} (h : exl K = true) : (decide (PySem.W.nsIn K mainGlobals "is_count" = some (some (.ref (He.ga K "is_count"))))) = true := (He.ba (He.ba (He.ba (He.ba (He.ba (He.ba (exg7 h)).2).2).2).2).2).1
theorem ex_146 {K : PySem.W.Frag} (h : exl K = true) : (decide (PySem.W.nsIn K mainGlobals "_first_word" = some (some (.ref (He.ga K "_first_word"))))) = true := (He.ba (He.ba (He.ba (He.ba (He.ba (He.ba (He.ba (exg7 h)).2).2).2).2).2).2).1
theorem ex_147 {K : PySem.W.Frag} (h : exl K = true) : (decide (PySem.W.nsIn K mainGlobals "is_span" = some (some (.ref (He.ga K "is_span"))))) = true := (He.ba (He.ba (He.ba (He.ba (He.ba (He.ba (He.ba (He.ba (exg7 h)).2).2).2).2).2).2).2).1
theorem ex_148 {K : PySem.W.Frag} (h : exl K = true) : (decide (PySem.W.nsIn K mainGlobals "is_fit" = some (some (.ref (He.ga K "is_fit"))))) = true := (He.ba (He.ba (He.ba (He.ba (He.ba (He.ba (He.ba (He.ba (He.ba (exg7 h)).2).2).2).2).2).2).2).2).1
theorem ex_149 {K : PySem.W.Frag} (h : exl K = true) : (decide (PySem.W.nsIn K mainGlobals "_are_none_or_many" = some (some (.ref (He.ga K "_are_none_or_many"))))) = true := (He.ba (He.ba (He.ba (He.ba (He.ba (He.ba (He.ba (He.ba (He.ba (He.ba (exg7 h)).2).2).2).2).2).2).2).2).2).1
theorem ex_150 {K : PySem.W.Frag} (h : exl K = true) : (decide (PySem.W.findIn K (.ref (He.ga K "Setup")) "__init__" = some (some (.ref (He.ma K (He.ga K "Setup") "__init__"))))) = true := (He.ba (He.ba (He.ba (He.ba (He.ba (He.ba (He.ba (He.ba (He.ba (He.ba (He.ba (exg7 h)).2).2).2).2).2).2).2).2).2).2).1
theorem ex_151 {K : PySem.W.Frag} (h : exl K = true) : (PySem.W.isFn K (.ref (He.ma K (He.ga K "Setup") "__init__"))) = true := (He.ba (He.ba (He.ba (He.ba (He.ba (He.ba (He.ba (He.ba (He.ba (He.ba (He.ba (He.ba (exg7 h)).2).2).2).2).2).2).2).2).2).2).2).1
theorem ex_152 {K : PySem.W.Frag} (h : exl K = true) : (decide (PySem.W.findIn K (.ref (He.ga K "Setup")) "behind_begin" = some (some (.ref (He.ma K (He.ga K "Setup") "behind_begin"))))) = true := (He.ba (He.ba (He.ba (He.ba (He.ba (He.ba (He.ba (He.ba (He.ba (He.ba (He.ba (He.ba (He.ba (exg7 h)).2).2).2).2).2).2).2).2).2).2).2).2).1
theorem ex_153 {K : PySem.W.Frag} (h : exl K = true) : (PySem.W.isFn K (.ref (He.ma K (He.ga K "Setup") "behind_begin"))) = true := (He.ba (He.ba (He.ba (He.ba (He.ba (He.ba (He.ba (He.ba (He.ba (He.ba (He.ba (He.ba (He.ba (He.ba (exg7 h)).2).2).2).2).2).2).2).2).2).2).2).2).2).1
theorem ex_154 {K : PySem.W.Frag} (h : exl K = true) : (decide (PySem.W.findIn K (.ref (He.ga K "Setup")) "behind_end" = some (some (.ref (He.ma K (He.ga K "Setup") "behind_end"))))) = true := (He.ba (He.ba (He.ba (He.ba (He.ba (He.ba (He.ba (He.ba (He.ba (He.ba (He.ba (He.ba (He.ba (He.ba (He.ba (exg7 h)).2).2).2).2).2).2).2).2).2).2).2).2).2).2).1
theorem ex_155 {K : PySem.W.Frag} (h : exl K = true) : (PySem.W.isFn K (.ref (He.ma K (He.ga K "Setup") "behind_end"))) = true := (He.ba (He.ba (He.ba (He.ba (He.ba (He.ba (He.ba (He.ba (He.ba (He.ba (He.ba (He.ba (He.ba (He.ba (He.ba (He.ba (exg7 h)).2).2).2).2).2).2).2).2).2).2).2).2).2).2).2).1
theorem ex_156 {K : PySem.W.Frag} (h : exl K = true) : (decide (PySem.W.findIn K (.ref (He.ga K "Setup")) "what_holds" = some (some (.ref (He.ma K (He.ga K "Setup") "what_holds"))))) = true := (He.ba (He.ba (He.ba (He.ba (He.ba (He.ba (He.ba (He.ba (He.ba (He.ba (He.ba (He.ba (He.ba (He.ba (He.ba (He.ba (He.ba (exg7 h)).2).2).2).2).2).2).2).2).2).2).2).2).2).2).2).2).1
theorem ex_157 {K : PySem.W.Frag} (h : exl K = true) : (PySem.W.isFn K (.ref (He.ma K (He.ga K "Setup") "what_holds"))) = true := (He.ba (He.ba (He.ba (He.ba (He.ba (He.ba (He.ba (He.ba (He.ba (He.ba (He.ba (He.ba (He.ba (He.ba (He.ba (He.ba (He.ba (He.ba (exg7 h)).2).2).2).2).2).2).2).2).2).2).2).2).2).2).2).2).2).1
theorem ex_158 {K : PySem.W.Frag} (h : exl K = true) : (decide (PySem.W.nsIn K mainGlobals "_twin" = some (some (.ref (He.ga K "_twin"))))) = true := (He.ba (He.ba (He.ba (He.ba (He.ba (He.ba (He.ba (He.ba (He.ba (He.ba (He.ba (He.ba (He.ba (He.ba (He.ba (He.ba (He.ba (He.ba (He.ba (exg7 h)).2).2).2).2).2).2).2).2).2).2).2).2).2).2).2).2).2).2).1
theorem ex_159 {K : PySem.W.Frag} (h : exl K = true) : (decide (PySem.W.nsIn K mainGlobals "_running" = some (some (.ref (He.ga K "_running"))))) = true := (He.ba (He.ba (He.ba (He.ba (He.ba (He.ba (He.ba (He.ba (He.ba (He.ba (He.ba (He.ba (He.ba (He.ba (He.ba (He.ba (He.ba (He.ba (He.ba (exg7 h)).2).2).2).2).2).2).2).2).2).2).2).2).2).2).2).2).2).2).2
theorem exg8 {K : PySem.W.Frag} (h : exl K = true) : exl8 K = true := (He.ba (He.ba (He.ba (He.ba (He.ba (He.ba (He.ba (He.ba (He.ba h).2).2).2).2).2).2).2).2).1
theorem ex_160 {K : PySem.W.Frag} (h : exl K = true) : (decide (PySem.W.nsIn K mainGlobals "_can_add" = some (some (.ref (He.ga K "_can_add"))))) = true := (He.ba (exg8 h)).1
theorem ex_161 {K : PySem.W.Frag} (h : exl K = true) : (decide (PySem.W.nsIn K mainGlobals "_add" = some (some (.ref (He.ga K "_add"))))) = true := (He.ba (He.ba (exg8 h)).2).1
theorem ex_162 {K : PySem.W.Frag} (h : exl K = true) : (decide (PySem.W.nsIn K mainGlobals "_can_drop" = some (some (.ref (He.ga K "_can_drop"))))) = true := (He.ba (He.ba (He.ba (exg8 h)).2).2).1
theorem ex_163 {K : PySem.W.Frag} (h : exl K = true) : (decide (PySem.W.nsIn K mainGlobals "_drop" = some (some (.ref (He.ga K "_drop"))))) = true := (He.ba (He.ba (He.ba (He.ba (exg8 h)).2).2).2).1
theorem ex_164 {K : PySem.W.Frag} (h : exl K = true) : (decide (PySem.W.nsIn K mainGlobals "_can_mirror_up" = some (some (.ref (He.ga K "_can_mirror_up"))))) = true := (He.ba (He.ba (He.ba (He.ba (He.ba (exg8 h)).2).2).2).2).1
theorem ex_165 {K : PySem.W.Frag} (h : exl K = true) : (decide (PySem.W.nsIn K mainGlobals "_mirror_up" = some (some (.ref (He.ga K "_mirror_up"))))) = true := (He.ba (He.ba (He.ba (He.ba (He.ba (He.ba (exg8 h)).2).2).2).2).2).1
theorem ex_166 {K : PySem.W.Frag} (h : exl K = true) : (decide (PySem.W.nsIn K mainGlobals "_is_up" = some (some (.ref (He.ga K "_is_up"))))) = true := (He.ba (He.ba (He.ba (He.ba (He.ba (He.ba (He.ba (exg8 h)).2).2).2).2).2).2).1
theorem ex_167 {K : PySem.W.Frag} (h : exl K = true) : (decide (PySem.W.nsIn K mainGlobals "_end_up" = some (some (.ref (He.ga K "_end_up"))))) = true := (He.ba (He.ba (He.ba (He.ba (He.ba (He.ba (He.ba (He.ba (exg8 h)).2).2).2).2).2).2).2).1
theorem ex_168 {K : PySem.W.Frag} (h : exl K = true) : (decide (PySem.W.nsIn K mainGlobals "_can_mirror_down" = some (some (.ref (He.ga K "_can_mirror_down"))))) = true := (He.ba (He.ba (He.ba (He.ba (He.ba (He.ba (He.ba (He.ba (He.ba (exg8 h)).2).2).2).2).2).2).2).2).1
theorem ex_169 {K : PySem.W.Frag} (h : exl K = true) : (decide (PySem.W.nsIn K mainGlobals "_mirror_down" = some (some (.ref (He.ga K "_mirror_down"))))) = true := (He.ba (He.ba (He.ba (He.ba (He.ba (He.ba (He.ba (He.ba (He.ba (He.ba (exg8 h)).2).2).2).2).2).2).2).2).2).1
theorem ex_170 {K : PySem.W.Frag} (h : exl K = true) : (decide (PySem.W.nsIn K mainGlobals "_is_down" = some (some (.ref (He.ga K "_is_down"))))) = true := (He.ba (He.ba (He.ba (He.ba (He.ba (He.ba (He.ba (He.ba (He.ba (He.ba (He.ba (exg8 h)).2).2).2).2).2).2).2).2).2).2).1
theorem ex_171 {K : PySem.W.Frag} (h : exl K = true) : (decide (PySem.W.nsIn K mainGlobals "_end_down" = some (some (.ref (He.ga K "_end_down"))))) = true := (He.ba (He.ba (He.ba (He.ba (He.ba (He.ba (He.ba (He.ba (He.ba (He.ba (He.ba (He.ba (exg8 h)).2).2).2).2).2).2).2).2).2).2).2).1
theorem ex_172 {K : PySem.W.Frag} (h : exl K = true) : (decide (PySem.W.nsIn K mainGlobals "_has_both" = some (some (.ref (He.ga K "_has_both"))))) = true := (He.ba (He.ba (He.ba (He.ba (He.ba (He.ba (He.ba (He.ba (He.ba (He.ba (He.ba (He.ba (He.ba (exg8 h)).2).2).2).2).2).2).2).2).2).2).2).2).1
theorem ex_173 {K : PySem.W.Frag} (h : exl K = true) : (decide (PySem.W.nsIn K mainGlobals "_can_release" = some (some (.ref (He.ga K "_can_release"))))) = true := (He.ba (He.ba (He.ba (He.ba (He.ba (He.ba (He.ba (He.ba (He.ba (He.ba (He.ba (He.ba (He.ba (He.ba (exg8 h)).2).2).2).2).2).2).2).2).2).2).2).2).2).1
theorem ex_174 {K : PySem.W.Frag} (h : exl K = true) : (decide (PySem.W.nsIn K mainGlobals "_can_withdraw" = some (some (.ref (He.ga K "_can_withdraw"))))) = true := (He.ba (He.ba (He.ba (He.ba (He.ba (He.ba (He.ba (He.ba (He.ba (He.ba (He.ba (He.ba (He.ba (He.ba (He.ba (exg8 h)).2).2).2).2).2).2).2).2).2).2).2).2).2).2).1
theorem ex_175 {K : PySem.W.Frag} (h : exl K = true) : (decide (PySem.W.nsIn K mainGlobals "_go_on" = some (some (.ref (He.ga K "_go_on"))))) = true := (He.ba (He.ba (He.ba (He.ba (He.ba (He.ba (He.ba (He.ba (He.ba (He.ba (He.ba (He.ba (He.ba (He.ba (He.ba (He.ba (exg8 h)).2).2).2).2).2).2).2).2).2).2).2).2).2).2).2).1
theorem ex_176 {K : PySem.W.Frag} (h : exl K = true) : (decide (PySem.W.nsIn K mainGlobals "_can_grow" = some (some (.ref (He.ga K "_can_grow"))))) = true := (He.ba (He.ba (He.ba (He.ba (He.ba (He.ba (He.ba (He.ba (He.ba (He.ba (He.ba (He.ba (He.ba (He.ba (He.ba (He.ba (He.ba (exg8 h)).2).2).2).2).2).2).2).2).2).2).2).2).2).2).2).2).1
theorem ex_177 {K : PySem.W.Frag} (h : exl K = true) : (decide (PySem.W.nsIn K mainGlobals "_grow" = some (some (.ref (He.ga K "_grow"))))) = true := (He.ba (He.ba (He.ba (He.ba (He.ba (He.ba (He.ba (He.ba (He.ba (He.ba (He.ba (He.ba (He.ba (He.ba (He.ba (He.ba (He.ba (He.ba (exg8 h)).2).2).2).2).2).2).2).2).2).2).2).2).2).2).2).2).2).1
theorem ex_178 {K : PySem.W.Frag} (h : exl K = true) : (decide (PySem.W.nsIn K mainGlobals "_can_purge" = some (some (.ref (He.ga K "_can_purge"))))) = true := (He.ba (He.ba (He.ba (He.ba (He.ba (He.ba (He.ba (He.ba (He.ba (He.ba (He.ba (He.ba (He.ba (He.ba (He.ba (He.ba (He.ba (He.ba (He.ba (exg8 h)).2).2).2).2).2).2).2).2).2).2).2).2).2).2).2).2).2).2).1
theorem ex_179 {K : PySem.W.Frag} (h : exl K = true) : (decide (PySem.W.nsIn K mainGlobals "_purge" = some (some (.ref (He.ga K "_purge"))))) = true := (He.ba (He.ba (He.ba (He.ba (He.ba (He.ba (He.ba (He.ba (He.ba (He.ba (He.ba (He.ba (He.ba (He.ba (He.ba (He.ba (He.ba (He.ba (He.ba (exg8 h)).2).2).2).2).2).2).2).2).2).2).2).2).2).2).2).2).2).2).2
theorem exg9 {K : PySem.W.Frag} (h : exl K = true) : exl9 K = true := (He.ba (He.ba (He.ba (He.ba (He.ba (He.ba (He.ba (He.ba (He.ba (He.ba h).2).2).2).2).2).2).2).2).2).1
theorem ex_180 {K : PySem.W.Frag} (h : exl K = true) : (decide (PySem.W.nsIn K mainGlobals "is_step" = some (some (.ref (He.ga K "is_step"))))) = true := (He.ba (exg9 h)).1
theorem ex_181 {K : PySem.W.Frag} (h : exl K = true) : (decide (PySem.W.nsIn K mainGlobals "moments" = some (some (.ref (He.ga K "moments"))))) = true := (He.ba (He.ba (exg9 h)).2).1
theorem ex_182 {K : PySem.W.Frag} (h : exl K = true) : (decide (PySem.W.nsIn K mainGlobals "are_parts" = some (some (.ref (He.ga K "are_parts"))))) = true := (He.ba (He.ba (He.ba (exg9 h)).2).2).1
theorem ex_183 {K : PySem.W.Frag} (h : exl K = true) : (decide (PySem.W.nsIn K mainGlobals "_is_part" = some (some (.ref (He.ga K "_is_part"))))) = true := (He.ba (He.ba (He.ba (He.ba (exg9 h)).2).2).2).1
theorem ex_184 {K : PySem.W.Frag} (h : exl K = true) : (decide (PySem.W.findIn K (.ref (He.ga K "Kind")) "__init__" = some (some (.ref (He.ma K (He.ga K "Kind") "__init__"))))) = true := (He.ba (He.ba (He.ba (He.ba (He.ba (exg9 h)).2).2).2).2).1
theorem ex_185 {K : PySem.W.Frag} (h : exl K = true) : (PySem.W.isFn K (.ref (He.ma K (He.ga K "Kind") "__init__"))) = true := (He.ba (He.ba (He.ba (He.ba (He.ba (He.ba (exg9 h)).2).2).2).2).2).1
theorem ex_186 {K : PySem.W.Frag} (h : exl K = true) : (decide (PySem.W.findIn K (.ref (He.ga K "Kind")) "__contains__" = some (some (.ref (He.ma K (He.ga K "Kind") "__contains__"))))) = true := (He.ba (He.ba (He.ba (He.ba (He.ba (He.ba (He.ba (exg9 h)).2).2).2).2).2).2).1
theorem ex_187 {K : PySem.W.Frag} (h : exl K = true) : (PySem.W.isFn K (.ref (He.ma K (He.ga K "Kind") "__contains__"))) = true := (He.ba (He.ba (He.ba (He.ba (He.ba (He.ba (He.ba (He.ba (exg9 h)).2).2).2).2).2).2).2).1
theorem ex_188 {K : PySem.W.Frag} (h : exl K = true) : (decide (PySem.W.findIn K (.ref (He.ga K "Kind")) "__eq__" = some (some (.ref (He.ma K (He.ga K "Kind") "__eq__"))))) = true := (He.ba (He.ba (He.ba (He.ba (He.ba (He.ba (He.ba (He.ba (He.ba (exg9 h)).2).2).2).2).2).2).2).2).1
theorem ex_189 {K : PySem.W.Frag} (h : exl K = true) : (PySem.W.isFn K (.ref (He.ma K (He.ga K "Kind") "__eq__"))) = true := (He.ba (He.ba (He.ba (He.ba (He.ba (He.ba (He.ba (He.ba (He.ba (He.ba (exg9 h)).2).2).2).2).2).2).2).2).2).1
theorem ex_190 {K : PySem.W.Frag} (h : exl K = true) : (decide (PySem.W.findIn K (.ref (He.ga K "Kind")) "__le__" = some (some (.ref (He.ma K (He.ga K "Kind") "__le__"))))) = true := (He.ba (He.ba (He.ba (He.ba (He.ba (He.ba (He.ba (He.ba (He.ba (He.ba (He.ba (exg9 h)).2).2).2).2).2).2).2).2).2).2).1
theorem ex_191 {K : PySem.W.Frag} (h : exl K = true) : (PySem.W.isFn K (.ref (He.ma K (He.ga K "Kind") "__le__"))) = true := (He.ba (He.ba (He.ba (He.ba (He.ba (He.ba (He.ba (He.ba (He.ba (He.ba (He.ba (He.ba (exg9 h)).2).2).2).2).2).2).2).2).2).2).2).1
theorem ex_192 {K : PySem.W.Frag} (h : exl K = true) : (decide (PySem.W.findIn K (.ref (He.ga K "Kind")) "__lt__" = some (some (.ref (He.ma K (He.ga K "Kind") "__lt__"))))) = true := (He.ba (He.ba (He.ba (He.ba (He.ba (He.ba (He.ba (He.ba (He.ba (He.ba (He.ba (He.ba (He.ba (exg9 h)).2).2).2).2).2).2).2).2).2).2).2).2).1
theorem ex_193 {K : PySem.W.Frag} (h : exl K = true) : (PySem.W.isFn K (.ref (He.ma K (He.ga K "Kind") "__lt__"))) = true := (He.ba (He.ba (He.ba (He.ba (He.ba (He.ba (He.ba (He.ba (He.ba (He.ba (He.ba (He.ba (He.ba (He.ba (exg9 h)).2).2).2).2).2).2).2).2).2).2).2).2).2).1
theorem ex_194 {K : PySem.W.Frag} (h : exl K = true) : (decide (PySem.W.findIn K (.ref (He.ga K "World")) "__init__" = some (some (.ref (He.ma K (He.ga K "World") "__init__"))))) = true := (He.ba (He.ba (He.ba (He.ba (He.ba (He.ba (He.ba (He.ba (He.ba (He.ba (He.ba (He.ba (He.ba (He.ba (He.ba (exg9 h)).2).2).2).2).2).2).2).2).2).2).2).2).2).2).1
theorem ex_195 {K : PySem.W.Frag} (h : exl K = true) : (PySem.W.isFn K (.ref (He.ma K (He.ga K "World") "__init__"))) = true := (He.ba (He.ba (He.ba (He.ba (He.ba (He.ba (He.ba (He.ba (He.ba (He.ba (He.ba (He.ba (He.ba (He.ba (He.ba (He.ba (exg9 h)).2).2).2).2).2).2).2).2).2).2).2).2).2).2).2).1
theorem ex_196 {K : PySem.W.Frag} (h : exl K = true) : (decide (PySem.W.nsIn K mainGlobals "_are_kinds" = some (some (.ref (He.ga K "_are_kinds"))))) = true := (He.ba (He.ba (He.ba (He.ba (He.ba (He.ba (He.ba (He.ba (He.ba (He.ba (He.ba (He.ba (He.ba (He.ba (He.ba (He.ba (He.ba (exg9 h)).2).2).2).2).2).2).2).2).2).2).2).2).2).2).2).2).1
theorem ex_197 {K : PySem.W.Frag} (h : exl K = true) : (decide (PySem.W.nsIn K mainGlobals "_are_columns" = some (some (.ref (He.ga K "_are_columns"))))) = true := (He.ba (He.ba (He.ba (He.ba (He.ba (He.ba (He.ba (He.ba (He.ba (He.ba (He.ba (He.ba (He.ba (He.ba (He.ba (He.ba (He.ba (He.ba (exg9 h)).2).2).2).2).2).2).2).2).2).2).2).2).2).2).2).2).2).1
theorem ex_198 {K : PySem.W.Frag} (h : exl K = true) : (decide (PySem.W.nsIn K mainGlobals "_are_programs" = some (some (.ref (He.ga K "_are_programs"))))) = true := (He.ba (He.ba (He.ba (He.ba (He.ba (He.ba (He.ba (He.ba (He.ba (He.ba (He.ba (He.ba (He.ba (He.ba (He.ba (He.ba (He.ba (He.ba (He.ba (exg9 h)).2).2).2).2).2).2).2).2).2).2).2).2).2).2).2).2).2).2).1
theorem ex_199 {K : PySem.W.Frag} (h : exl K = true) : (decide (PySem.W.nsIn K mainGlobals "_is_program" = some (some (.ref (He.ga K "_is_program"))))) = true := (He.ba (He.ba (He.ba (He.ba (He.ba (He.ba (He.ba (He.ba (He.ba (He.ba (He.ba (He.ba (He.ba (He.ba (He.ba (He.ba (He.ba (He.ba (He.ba (exg9 h)).2).2).2).2).2).2).2).2).2).2).2).2).2).2).2).2).2).2).2
theorem exg10 {K : PySem.W.Frag} (h : exl K = true) : exl10 K = true := (He.ba (He.ba (He.ba (He.ba (He.ba (He.ba (He.ba (He.ba (He.ba (He.ba (He.ba h).2).2).2).2).2).2).2).2).2).2).1
theorem ex_200 {K : PySem.W.Frag} (h : exl K = true) : (decide (PySem.W.nsIn K mainGlobals "_is_edition" = some (some (.ref (He.ga K "_is_edition"))))) = true := (He.ba (exg10 h)).1
theorem ex_201 {K : PySem.W.Frag} (h : exl K = true) : (decide (PySem.W.nsIn K mainGlobals "_are_rows" = some (some (.ref (He.ga K "_are_rows"))))) = true := (He.ba (He.ba (exg10 h)).2).1
theorem ex_202 {K : PySem.W.Frag} (h : exl K = true) : (decide (PySem.W.nsIn K mainGlobals "_is_read" = some (some (.ref (He.ga K "_is_read"))))) = true := (He.ba (He.ba (He.ba (exg10 h)).2).2).1
theorem ex_203 {K : PySem.W.Frag} (h : exl K = true) : (decide (PySem.W.nsIn K mainGlobals "_is_write" = some (some (.ref (He.ga K "_is_write"))))) = true := (He.ba (He.ba (He.ba (He.ba (exg10 h)).2).2).2).1
theorem ex_204 {K : PySem.W.Frag} (h : exl K = true) : (decide (PySem.W.nsIn K mainGlobals "_is_first_edition" = some (some (.ref (He.ga K "_is_first_edition"))))) = true := (He.ba (He.ba (He.ba (He.ba (He.ba (exg10 h)).2).2).2).2).1
theorem ex_205 {K : PySem.W.Frag} (h : exl K = true) : (decide (PySem.W.nsIn K mainGlobals "_many_in_two_events" = some (some (.ref (He.ga K "_many_in_two_events"))))) = true := (He.ba (He.ba (He.ba (He.ba (He.ba (He.ba (exg10 h)).2).2).2).2).2).1
theorem ex_206 {K : PySem.W.Frag} (h : exl K = true) : (decide (PySem.W.nsIn K mainGlobals "_law_pot_of" = some (some (.ref (He.ga K "_law_pot_of"))))) = true := (He.ba (He.ba (He.ba (He.ba (He.ba (He.ba (He.ba (exg10 h)).2).2).2).2).2).2).1
theorem ex_207 {K : PySem.W.Frag} (h : exl K = true) : (decide (PySem.W.nsIn K mainGlobals "_law_take" = some (some (.ref (He.ga K "_law_take"))))) = true := (He.ba (He.ba (He.ba (He.ba (He.ba (He.ba (He.ba (He.ba (exg10 h)).2).2).2).2).2).2).2).1
theorem ex_208 {K : PySem.W.Frag} (h : exl K = true) : (decide (PySem.W.nsIn K mainGlobals "_law_of" = some (some (.ref (He.ga K "_law_of"))))) = true := (He.ba (He.ba (He.ba (He.ba (He.ba (He.ba (He.ba (He.ba (He.ba (exg10 h)).2).2).2).2).2).2).2).2).1
theorem ex_209 {K : PySem.W.Frag} (h : exl K = true) : (decide (PySem.W.nsIn K mainGlobals "_law_hand_world" = some (some (.ref (He.ga K "_law_hand_world"))))) = true := (He.ba (He.ba (He.ba (He.ba (He.ba (He.ba (He.ba (He.ba (He.ba (He.ba (exg10 h)).2).2).2).2).2).2).2).2).2).1
theorem ex_210 {K : PySem.W.Frag} (h : exl K = true) : (decide (PySem.W.nsIn K mainGlobals "_law_names" = some (some (.ref (He.ga K "_law_names"))))) = true := (He.ba (He.ba (He.ba (He.ba (He.ba (He.ba (He.ba (He.ba (He.ba (He.ba (He.ba (exg10 h)).2).2).2).2).2).2).2).2).2).2).1
theorem ex_211 {K : PySem.W.Frag} (h : exl K = true) : (decide (PySem.W.nsIn K mainGlobals "_law_refused" = some (some (.ref (He.ga K "_law_refused"))))) = true := (He.ba (He.ba (He.ba (He.ba (He.ba (He.ba (He.ba (He.ba (He.ba (He.ba (He.ba (He.ba (exg10 h)).2).2).2).2).2).2).2).2).2).2).2).1
theorem ex_212 {K : PySem.W.Frag} (h : exl K = true) : (decide (PySem.W.nsIn K mainGlobals "_law_releases_right" = some (some (.ref (He.ga K "_law_releases_right"))))) = true := (He.ba (He.ba (He.ba (He.ba (He.ba (He.ba (He.ba (He.ba (He.ba (He.ba (He.ba (He.ba (He.ba (exg10 h)).2).2).2).2).2).2).2).2).2).2).2).2).1
theorem ex_213 {K : PySem.W.Frag} (h : exl K = true) : (decide (PySem.W.nsIn K mainGlobals "_law_sides_right" = some (some (.ref (He.ga K "_law_sides_right"))))) = true := (He.ba (He.ba (He.ba (He.ba (He.ba (He.ba (He.ba (He.ba (He.ba (He.ba (He.ba (He.ba (He.ba (He.ba (exg10 h)).2).2).2).2).2).2).2).2).2).2).2).2).2).1
theorem ex_214 {K : PySem.W.Frag} (h : exl K = true) : (decide (PySem.W.nsIn K mainGlobals "_law_numbers_right" = some (some (.ref (He.ga K "_law_numbers_right"))))) = true := (He.ba (He.ba (He.ba (He.ba (He.ba (He.ba (He.ba (He.ba (He.ba (He.ba (He.ba (He.ba (He.ba (He.ba (He.ba (exg10 h)).2).2).2).2).2).2).2).2).2).2).2).2).2).2).1
theorem ex_215 {K : PySem.W.Frag} (h : exl K = true) : (decide (PySem.W.nsIn K mainGlobals "law" = some (some (.ref (He.ga K "law"))))) = true := (He.ba (He.ba (He.ba (He.ba (He.ba (He.ba (He.ba (He.ba (He.ba (He.ba (He.ba (He.ba (He.ba (He.ba (He.ba (He.ba (exg10 h)).2).2).2).2).2).2).2).2).2).2).2).2).2).2).2).1
theorem ex_216 {K : PySem.W.Frag} (h : exl K = true) : (decide (PySem.W.typeIn K (.ref (He.ma K (He.ga K "BadSpan") "__init__")) = some (.type "function"))) = true := (He.ba (He.ba (He.ba (He.ba (He.ba (He.ba (He.ba (He.ba (He.ba (He.ba (He.ba (He.ba (He.ba (He.ba (He.ba (He.ba (He.ba (exg10 h)).2).2).2).2).2).2).2).2).2).2).2).2).2).2).2).2).1
theorem ex_217 {K : PySem.W.Frag} (h : exl K = true) : (decide (PySem.W.typeIn K (.ref (He.ma K (He.ga K "BadPlan") "__init__")) = some (.type "function"))) = true := (He.ba (He.ba (He.ba (He.ba (He.ba (He.ba (He.ba (He.ba (He.ba (He.ba (He.ba (He.ba (He.ba (He.ba (He.ba (He.ba (He.ba (He.ba (exg10 h)).2).2).2).2).2).2).2).2).2).2).2).2).2).2).2).2).2).1
theorem ex_218 {K : PySem.W.Frag} (h : exl K = true) : (decide (PySem.W.nsIn K mainGlobals "int" = some none)) = true := (He.ba (He.ba (He.ba (He.ba (He.ba (He.ba (He.ba (He.ba (He.ba (He.ba (He.ba (He.ba (He.ba (He.ba (He.ba (He.ba (He.ba (He.ba (He.ba (exg10 h)).2).2).2).2).2).2).2).2).2).2).2).2).2).2).2).2).2).2).1
theorem ex_219 {K : PySem.W.Frag} (h : exl K = true) : (decide (PySem.W.nsIn K mainGlobals "len" = some none)) = true := (He.ba (He.ba (He.ba (He.ba (He.ba (He.ba (He.ba (He.ba (He.ba (He.ba (He.ba (He.ba (He.ba (He.ba (He.ba (He.ba (He.ba (He.ba (He.ba (exg10 h)).2).2).2).2).2).2).2).2).2).2).2).2).2).2).2).2).2).2).2
theorem exg11 {K : PySem.W.Frag} (h : exl K = true) : exl11 K = true := (He.ba (He.ba (He.ba (He.ba (He.ba (He.ba (He.ba (He.ba (He.ba (He.ba (He.ba h).2).2).2).2).2).2).2).2).2).2).2
theorem ex_220 {K : PySem.W.Frag} (h : exl K = true) : (decide (PySem.W.nsIn K mainGlobals "abs" = some none)) = true := (He.ba (exg11 h)).1
theorem ex_221 {K : PySem.W.Frag} (h : exl K = true) : (decide (PySem.W.nsIn K mainGlobals "bool" = some none)) = true := (He.ba (He.ba (exg11 h)).2).1
theorem ex_222 {K : PySem.W.Frag} (h : exl K = true) : (decide (PySem.W.nsIn K mainGlobals "tuple" = some none)) = true := (He.ba (He.ba (He.ba (exg11 h)).2).2).1
theorem ex_223 {K : PySem.W.Frag} (h : exl K = true) : (decide (PySem.W.nsIn K mainGlobals "isinstance" = some none)) = true := (He.ba (He.ba (He.ba (He.ba (exg11 h)).2).2).2).1
theorem ex_224 {K : PySem.W.Frag} (h : exl K = true) : (decide (PySem.W.nsIn K mainGlobals "range" = some none)) = true := (He.ba (He.ba (He.ba (He.ba (He.ba (exg11 h)).2).2).2).2).1
theorem ex_225 {K : PySem.W.Frag} (h : exl K = true) : (decide (PySem.W.nsIn K mainGlobals "max" = some none)) = true := (He.ba (He.ba (He.ba (He.ba (He.ba (He.ba (exg11 h)).2).2).2).2).2).1
theorem ex_226 {K : PySem.W.Frag} (h : exl K = true) : (decide (PySem.W.nsIn K mainGlobals "min" = some none)) = true := (He.ba (He.ba (He.ba (He.ba (He.ba (He.ba (He.ba (exg11 h)).2).2).2).2).2).2).1
theorem ex_227 {K : PySem.W.Frag} (h : exl K = true) : (decide (PySem.W.nsIn K mainGlobals "all" = some none)) = true := (He.ba (He.ba (He.ba (He.ba (He.ba (He.ba (He.ba (He.ba (exg11 h)).2).2).2).2).2).2).2).1
theorem ex_228 {K : PySem.W.Frag} (h : exl K = true) : (decide (PySem.W.nsIn K mainGlobals "repr" = some none)) = true := (He.ba (He.ba (He.ba (He.ba (He.ba (He.ba (He.ba (He.ba (He.ba (exg11 h)).2).2).2).2).2).2).2).2).1
theorem ex_229 {K : PySem.W.Frag} (h : exl K = true) : (decide (PySem.W.nsIn K mainGlobals "str" = some none)) = true := (He.ba (He.ba (He.ba (He.ba (He.ba (He.ba (He.ba (He.ba (He.ba (He.ba (exg11 h)).2).2).2).2).2).2).2).2).2).1
theorem ex_230 {K : PySem.W.Frag} (h : exl K = true) : (decide (PySem.W.nsIn K mainGlobals "any" = some none)) = true := (He.ba (He.ba (He.ba (He.ba (He.ba (He.ba (He.ba (He.ba (He.ba (He.ba (He.ba (exg11 h)).2).2).2).2).2).2).2).2).2).2).1
theorem ex_231 {K : PySem.W.Frag} (h : exl K = true) : (decide (PySem.W.nsIn K mainGlobals "list" = some none)) = true := (He.ba (He.ba (He.ba (He.ba (He.ba (He.ba (He.ba (He.ba (He.ba (He.ba (He.ba (He.ba (exg11 h)).2).2).2).2).2).2).2).2).2).2).2).1
theorem ex_232 {K : PySem.W.Frag} (h : exl K = true) : (decide (PySem.W.nsIn K mainGlobals "zip" = some none)) = true := (He.ba (He.ba (He.ba (He.ba (He.ba (He.ba (He.ba (He.ba (He.ba (He.ba (He.ba (He.ba (He.ba (exg11 h)).2).2).2).2).2).2).2).2).2).2).2).2).1
theorem ex_233 {K : PySem.W.Frag} (h : exl K = true) : (decide (PySem.W.nsIn K mainGlobals "enumerate" = some none)) = true := (He.ba (He.ba (He.ba (He.ba (He.ba (He.ba (He.ba (He.ba (He.ba (He.ba (He.ba (He.ba (He.ba (exg11 h)).2).2).2).2).2).2).2).2).2).2).2).2).2
def lo0 : List Str := [("editions_of" : Str), ("other_side" : Str), ("WidthError" : Str), ("BadKind" : Str), ("BadNumber" : Str), ("BadBits" : Str), ("BadText" : Str), ("BadSpan" : Str), ("BadWorld" : Str), ("BadPlan" : Str), ("MOST_FIGURES" : Str), ("is_integer" : Str), ("is_between" : Str), ("lesser" : Str), ("greater" : Str), ("read_integer" : Str), ("SIDES" : Str), ("RULES" : Str), ("MANNERS" : Str), ("MOST_LETTERS" : Str), ("STEP_FORMS" : Str), ("is_name" : Str), ("is_tuple_of" : Str), ("is_ascending" : Str), ("step_form" : Str)]
def lo1 : List Str := [("is_plain_part" : Str), ("is_count" : Str), ("_first_word" : Str), ("is_span" : Str), ("LEAST_NUMBERS" : Str), ("is_fit" : Str), ("_are_none_or_many" : Str), ("FILLS" : Str), ("Setup" : Str), ("_twin" : Str), ("_running" : Str), ("_can_add" : Str), ("_add" : Str), ("_can_drop" : Str), ("_drop" : Str), ("_can_mirror_up" : Str), ("_mirror_up" : Str), ("_is_up" : Str), ("_end_up" : Str), ("_can_mirror_down" : Str), ("_mirror_down" : Str), ("_is_down" : Str), ("_end_down" : Str), ("_has_both" : Str), ("_can_release" : Str)]
def lo2 : List Str := [("_can_withdraw" : Str), ("_go_on" : Str), ("_can_grow" : Str), ("_grow" : Str), ("_can_purge" : Str), ("_purge" : Str), ("POSSIBLE" : Str), ("CHANGES" : Str), ("MOST_STEPS" : Str), ("is_step" : Str), ("moments" : Str), ("are_parts" : Str), ("_is_part" : Str), ("MOST_BITS" : Str), ("MOST_DIGITS" : Str), ("Kind" : Str), ("_power_of_ten" : Str), ("LEAST_NARROW" : Str), ("MOST_PACE" : Str), ("MOST_IN_TWO_EVENTS" : Str), ("DEEDS" : Str), ("READ_SIDES" : Str), ("HOWS" : Str), ("IN_TWO_EVENTS" : Str), ("World" : Str)]
def lo3 : List Str := [("_are_kinds" : Str), ("_are_columns" : Str), ("_are_programs" : Str), ("_is_program" : Str), ("_is_edition" : Str), ("_are_rows" : Str), ("_is_read" : Str), ("_is_write" : Str), ("_is_first_edition" : Str), ("_many_in_two_events" : Str), ("_law_pot_of" : Str), ("_law_take" : Str), ("_law_of" : Str), ("_law_hand_world" : Str), ("_law_names" : Str), ("_law_refused" : Str), ("_law_releases_right" : Str), ("_law_sides_right" : Str), ("_law_numbers_right" : Str)]
def los : List Str := lo0 ++ lo1 ++ lo2 ++ lo3
abbrev R : PySem.W.OpenRow := PySem.W.OpenLaw.row PySem.Challenge.rw_widerkeys_k22_steps_by_hand
def asl0 : List Addr := [3, 21, 28, 38, 134, 172, 181, 188, 195, 202, 210, 211, 212, 213, 232, 239, 244, 251, 258, 265, 272, 279, 286, 293, 294, 328, 339, 346, 353, 360]
def asl1 : List Addr := [367, 374, 381, 388, 395, 402, 409, 416, 423, 430, 437, 444, 451, 458, 465, 472, 477, 484, 485, 486, 493, 500, 505, 512, 639, 651, 652, 653, 654, 678]
def asl2 : List Addr := [689, 694, 699, 704, 709, 714, 719, 726, 731, 736, 743, 750, 757, 764, 771, 778, 783, 788, 793, 800, 20, 27, 37, 133, 171, 180, 187, 194, 201, 214]
def asl3 : List Addr := [215, 216, 217, 218, 219, 220, 221, 222, 223, 224, 225, 231, 238, 243, 250, 257, 264, 271, 278, 285, 292, 327, 338, 345, 352, 359, 366, 373, 380, 387]
def asl4 : List Addr := [394, 401, 408, 415, 422, 429, 436, 443, 450, 457, 464, 471, 476, 483, 492, 499, 504, 511, 638, 677, 688, 693, 698, 703, 708, 713, 718, 725, 730, 735]
def asl5 : List Addr := [742, 749, 756, 763, 770, 777, 782, 787, 792, 799, 131, 169, 306, 313, 320, 325, 526, 580, 587, 594, 601, 668, 130, 168, 305, 312, 319, 324, 525, 579]
def asl6 : List Addr := [586, 593, 600, 667]
def asl : List Addr := asl0 ++ asl1 ++ asl2 ++ asl3 ++ asl4 ++ asl5 ++ asl6
abbrev hk : PySem.W.Hook := hookL asl fnl tsl exl
def ob (s : PySem.W.SharedT) : AlL := obsL asl fnl tsl exl (HandSHeadRun.getT s)
theorem ob_eq (s : PySem.W.SharedT) : ob s = hk.obs s.abs := obsL_eq (HandSHeadRun.getT_eq s)
theorem runF (w : World) : HandSHeadRun.RunEq R (PySem.W.view R.prog [105]) hk ob 7000 los (w.withFollow "special-get-raises" false) := by
  intro os
  kernel_rfl
theorem runT (w : World) : HandSHeadRun.RunEq R (PySem.W.view R.prog [105]) hk ob 7000 los (w.withFollow "special-get-raises" true) := by
  intro os
  kernel_rfl
theorem run (w : World) : HandSHeadRun.RunEq R (PySem.W.view R.prog [105]) hk ob 7000 los w := PySem.W.byRow2 "special-get-raises" (P := fun w => HandSHeadRun.RunEq R (PySem.W.view R.prog [105]) hk ob 7000 los w) runF runT w
theorem facts {l : PySem.W.OpenLaw} {w : World} {K : PySem.W.Frag} {h : Heap} {mg : Str → Option Value} {fa : Addr} (X : K.In h) (G : h.Ns mainGlobals mg) (hfa : mg "law" = some (.ref fa)) (c : He.SaysT [] fnl tsl w K ∧ exl K = true) :
    ∃ fd : FuncData, (∀ (s : Shared) (v : Value), BindsTo s fd ⟨[v], []⟩ [("_law_script", v)]) ∧ ∀ base : Heap, K.In base → base.Ns mainGlobals mg → FnG l.prog w K mg base CX0 10 fa fd P_law (spLaw K) := by
  obtain ⟨_, _, _, _, _, _, _, _, _, _, _, _, _, _, he1BadSpan⟩ := oexB_ok (ex_8 c.2)
  obtain ⟨_, _, _, _, _, _, _, _, _, _, _, _, _, _, he1BadPlan⟩ := oexB_ok (ex_22 c.2)
  obtain ⟨_, hgnMOST_LETTERS⟩ := numB_ok (ex_77 c.2)
  obtain ⟨_, hgnMOST_STEPS⟩ := numB_ok (ex_78 c.2)
  obtain ⟨_, hgnLEAST_NUMBERS⟩ := numB_ok (ex_79 c.2)
  obtain ⟨_, hgnLEAST_NARROW⟩ := numB_ok (ex_80 c.2)
  obtain ⟨_, hgnMOST_PACE⟩ := numB_ok (ex_81 c.2)
  obtain ⟨_, hgnMOST_IN_TWO_EVENTS⟩ := numB_ok (ex_82 c.2)
  obtain ⟨_, _, _, _, _, _, _, _, _, hleditions_of, hceditions_of, hkeditions_of⟩ := rawD (K := K) (x := "editions_of") (qual := "editions_of") (st := s_editions_of) (kws := []) (f := (He.ga K "editions_of")) (c.1.d.def_ 0 (d := dd0) rfl)
  obtain ⟨_, _, _, _, _, _, _, _, _, hlother_side, hcother_side, hkother_side⟩ := rawD (K := K) (x := "other_side") (qual := "other_side") (st := s_other_side) (kws := []) (f := (He.ga K "other_side")) (c.1.d.def_ 1 (d := dd1) rfl)
  obtain ⟨_, _, _, _, _, _, _, _, _, hlBadSpan___init__, hcBadSpan___init__, hkBadSpan___init__⟩ := rawD (K := K) (x := "__init__") (qual := "BadSpan.__init__") (st := s_BadSpan___init__) (kws := []) (f := (He.ma K (He.ga K "BadSpan") "__init__")) (c.1.d.def_ 2 (d := dd2) rfl)
  obtain ⟨_, _, _, _, _, _, _, _, _, hlBadPlan___init__, hcBadPlan___init__, hkBadPlan___init__⟩ := rawD (K := K) (x := "__init__") (qual := "BadPlan.__init__") (st := s_BadPlan___init__) (kws := []) (f := (He.ma K (He.ga K "BadPlan") "__init__")) (c.1.d.def_ 3 (d := dd3) rfl)
  obtain ⟨_, _, _, _, _, _, _, _, _, hlis_integer, hcis_integer, hkis_integer⟩ := rawD (K := K) (x := "is_integer") (qual := "is_integer") (st := s_is_integer) (kws := []) (f := (He.ga K "is_integer")) (c.1.d.def_ 4 (d := dd4) rfl)
  obtain ⟨_, _, _, _, _, _, _, _, _, hlis_between, hcis_between, hkis_between⟩ := rawD (K := K) (x := "is_between") (qual := "is_between") (st := s_is_between) (kws := []) (f := (He.ga K "is_between")) (c.1.d.def_ 5 (d := dd5) rfl)
  obtain ⟨_, _, _, _, _, _, _, _, _, hllesser, hclesser, hklesser⟩ := rawD (K := K) (x := "lesser") (qual := "lesser") (st := s_lesser) (kws := []) (f := (He.ga K "lesser")) (c.1.d.def_ 6 (d := dd6) rfl)
  obtain ⟨_, _, _, _, _, _, _, _, _, hlgreater, hcgreater, hkgreater⟩ := rawD (K := K) (x := "greater") (qual := "greater") (st := s_greater) (kws := []) (f := (He.ga K "greater")) (c.1.d.def_ 7 (d := dd7) rfl)
  obtain ⟨_, _, _, _, _, _, _, _, _, hlis_name, hcis_name, hkis_name⟩ := rawD (K := K) (x := "is_name") (qual := "is_name") (st := s_is_name) (kws := []) (f := (He.ga K "is_name")) (c.1.d.def_ 8 (d := dd8) rfl)
  obtain ⟨_, _, _, _, _, _, _, _, _, hlis_tuple_of, hcis_tuple_of, hkis_tuple_of⟩ := rawD (K := K) (x := "is_tuple_of") (qual := "is_tuple_of") (st := s_is_tuple_of) (kws := []) (f := (He.ga K "is_tuple_of")) (c.1.d.def_ 9 (d := dd9) rfl)
  obtain ⟨_, _, _, _, _, _, _, _, _, hlis_ascending, hcis_ascending, hkis_ascending⟩ := rawD (K := K) (x := "is_ascending") (qual := "is_ascending") (st := s_is_ascending) (kws := []) (f := (He.ga K "is_ascending")) (c.1.d.def_ 10 (d := dd10) rfl)
  obtain ⟨_, _, _, _, _, _, _, _, _, hlstep_form, hcstep_form, hkstep_form⟩ := rawD (K := K) (x := "step_form") (qual := "step_form") (st := s_step_form) (kws := []) (f := (He.ga K "step_form")) (c.1.d.def_ 11 (d := dd11) rfl)
  obtain ⟨_, _, _, _, _, _, _, _, _, hlis_plain_part, hcis_plain_part, hkis_plain_part⟩ := rawD (K := K) (x := "is_plain_part") (qual := "is_plain_part") (st := s_is_plain_part) (kws := []) (f := (He.ga K "is_plain_part")) (c.1.d.def_ 12 (d := dd12) rfl)
  obtain ⟨_, _, _, _, _, _, _, _, _, hlis_count, hcis_count, hkis_count⟩ := rawD (K := K) (x := "is_count") (qual := "is_count") (st := s_is_count) (kws := []) (f := (He.ga K "is_count")) (c.1.d.def_ 13 (d := dd13) rfl)
  obtain ⟨_, _, _, _, _, _, _, _, _, hl_first_word, hc_first_word, hk_first_word⟩ := rawD (K := K) (x := "_first_word") (qual := "_first_word") (st := s__first_word) (kws := []) (f := (He.ga K "_first_word")) (c.1.d.def_ 14 (d := dd14) rfl)
  obtain ⟨_, _, _, _, _, _, _, _, _, hlis_span, hcis_span, hkis_span⟩ := rawD (K := K) (x := "is_span") (qual := "is_span") (st := s_is_span) (kws := []) (f := (He.ga K "is_span")) (c.1.d.def_ 15 (d := dd15) rfl)
  obtain ⟨_, _, _, _, _, _, _, _, _, hlis_fit, hcis_fit, hkis_fit⟩ := rawD (K := K) (x := "is_fit") (qual := "is_fit") (st := s_is_fit) (kws := []) (f := (He.ga K "is_fit")) (c.1.d.def_ 16 (d := dd16) rfl)
  obtain ⟨_, _, _, _, _, _, _, _, _, hl_are_none_or_many, hc_are_none_or_many, hk_are_none_or_many⟩ := rawD (K := K) (x := "_are_none_or_many") (qual := "_are_none_or_many") (st := s__are_none_or_many) (kws := []) (f := (He.ga K "_are_none_or_many")) (c.1.d.def_ 17 (d := dd17) rfl)
  obtain ⟨_, _, _, _, _, _, _, _, _, hlSetup___init__, hcSetup___init__, hkSetup___init__⟩ := rawD (K := K) (x := "__init__") (qual := "Setup.__init__") (st := s_Setup___init__) (kws := []) (f := (He.ma K (He.ga K "Setup") "__init__")) (c.1.d.def_ 18 (d := dd18) rfl)
  obtain ⟨_, _, _, _, _, _, _, _, _, hlSetup_behind_begin, hcSetup_behind_begin, hkSetup_behind_begin⟩ := rawD (K := K) (x := "behind_begin") (qual := "Setup.behind_begin") (st := s_Setup_behind_begin) (kws := []) (f := (He.ma K (He.ga K "Setup") "behind_begin")) (c.1.d.def_ 19 (d := dd19) rfl)
  obtain ⟨_, _, _, _, _, _, _, _, _, hlSetup_behind_end, hcSetup_behind_end, hkSetup_behind_end⟩ := rawD (K := K) (x := "behind_end") (qual := "Setup.behind_end") (st := s_Setup_behind_end) (kws := []) (f := (He.ma K (He.ga K "Setup") "behind_end")) (c.1.d.def_ 20 (d := dd20) rfl)
  obtain ⟨_, _, _, _, _, _, _, _, _, hlSetup_what_holds, hcSetup_what_holds, hkSetup_what_holds⟩ := rawD (K := K) (x := "what_holds") (qual := "Setup.what_holds") (st := s_Setup_what_holds) (kws := []) (f := (He.ma K (He.ga K "Setup") "what_holds")) (c.1.d.def_ 21 (d := dd21) rfl)
  obtain ⟨_, _, _, _, _, _, _, _, _, hl_twin, hc_twin, hk_twin⟩ := rawD (K := K) (x := "_twin") (qual := "_twin") (st := s__twin) (kws := []) (f := (He.ga K "_twin")) (c.1.d.def_ 22 (d := dd22) rfl)
  obtain ⟨_, _, _, _, _, _, _, _, _, hl_running, hc_running, hk_running⟩ := rawD (K := K) (x := "_running") (qual := "_running") (st := s__running) (kws := []) (f := (He.ga K "_running")) (c.1.d.def_ 23 (d := dd23) rfl)
  obtain ⟨_, _, _, _, _, _, _, _, _, hl_can_add, hc_can_add, hk_can_add⟩ := rawD (K := K) (x := "_can_add") (qual := "_can_add") (st := s__can_add) (kws := []) (f := (He.ga K "_can_add")) (c.1.d.def_ 24 (d := dd24) rfl)
  obtain ⟨_, _, _, _, _, _, _, _, _, hl_add, hc_add, hk_add⟩ := rawD (K := K) (x := "_add") (qual := "_add") (st := s__add) (kws := []) (f := (He.ga K "_add")) (c.1.d.def_ 25 (d := dd25) rfl)
  obtain ⟨_, _, _, _, _, _, _, _, _, hl_can_drop, hc_can_drop, hk_can_drop⟩ := rawD (K := K) (x := "_can_drop") (qual := "_can_drop") (st := s__can_drop) (kws := []) (f := (He.ga K "_can_drop")) (c.1.d.def_ 26 (d := dd26) rfl)
  obtain ⟨_, _, _, _, _, _, _, _, _, hl_drop, hc_drop, hk_drop⟩ := rawD (K := K) (x := "_drop") (qual := "_drop") (st := s__drop) (kws := []) (f := (He.ga K "_drop")) (c.1.d.def_ 27 (d := dd27) rfl)
  obtain ⟨_, _, _, _, _, _, _, _, _, hl_can_mirror_up, hc_can_mirror_up, hk_can_mirror_up⟩ := rawD (K := K) (x := "_can_mirror_up") (qual := "_can_mirror_up") (st := s__can_mirror_up) (kws := []) (f := (He.ga K "_can_mirror_up")) (c.1.d.def_ 28 (d := dd28) rfl)
  obtain ⟨_, _, _, _, _, _, _, _, _, hl_mirror_up, hc_mirror_up, hk_mirror_up⟩ := rawD (K := K) (x := "_mirror_up") (qual := "_mirror_up") (st := s__mirror_up) (kws := []) (f := (He.ga K "_mirror_up")) (c.1.d.def_ 29 (d := dd29) rfl)
  obtain ⟨_, _, _, _, _, _, _, _, _, hl_is_up, hc_is_up, hk_is_up⟩ := rawD (K := K) (x := "_is_up") (qual := "_is_up") (st := s__is_up) (kws := []) (f := (He.ga K "_is_up")) (c.1.d.def_ 30 (d := dd30) rfl)
  obtain ⟨_, _, _, _, _, _, _, _, _, hl_end_up, hc_end_up, hk_end_up⟩ := rawD (K := K) (x := "_end_up") (qual := "_end_up") (st := s__end_up) (kws := []) (f := (He.ga K "_end_up")) (c.1.d.def_ 31 (d := dd31) rfl)
  obtain ⟨_, _, _, _, _, _, _, _, _, hl_can_mirror_down, hc_can_mirror_down, hk_can_mirror_down⟩ := rawD (K := K) (x := "_can_mirror_down") (qual := "_can_mirror_down") (st := s__can_mirror_down) (kws := []) (f := (He.ga K "_can_mirror_down")) (c.1.d.def_ 32 (d := dd32) rfl)
  obtain ⟨_, _, _, _, _, _, _, _, _, hl_mirror_down, hc_mirror_down, hk_mirror_down⟩ := rawD (K := K) (x := "_mirror_down") (qual := "_mirror_down") (st := s__mirror_down) (kws := []) (f := (He.ga K "_mirror_down")) (c.1.d.def_ 33 (d := dd33) rfl)
  obtain ⟨_, _, _, _, _, _, _, _, _, hl_is_down, hc_is_down, hk_is_down⟩ := rawD (K := K) (x := "_is_down") (qual := "_is_down") (st := s__is_down) (kws := []) (f := (He.ga K "_is_down")) (c.1.d.def_ 34 (d := dd34) rfl)
  obtain ⟨_, _, _, _, _, _, _, _, _, hl_end_down, hc_end_down, hk_end_down⟩ := rawD (K := K) (x := "_end_down") (qual := "_end_down") (st := s__end_down) (kws := []) (f := (He.ga K "_end_down")) (c.1.d.def_ 35 (d := dd35) rfl)
  obtain ⟨_, _, _, _, _, _, _, _, _, hl_has_both, hc_has_both, hk_has_both⟩ := rawD (K := K) (x := "_has_both") (qual := "_has_both") (st := s__has_both) (kws := []) (f := (He.ga K "_has_both")) (c.1.d.def_ 36 (d := dd36) rfl)
  obtain ⟨_, _, _, _, _, _, _, _, _, hl_can_release, hc_can_release, hk_can_release⟩ := rawD (K := K) (x := "_can_release") (qual := "_can_release") (st := s__can_release) (kws := []) (f := (He.ga K "_can_release")) (c.1.d.def_ 37 (d := dd37) rfl)
  obtain ⟨_, _, _, _, _, _, _, _, _, hl_can_withdraw, hc_can_withdraw, hk_can_withdraw⟩ := rawD (K := K) (x := "_can_withdraw") (qual := "_can_withdraw") (st := s__can_withdraw) (kws := []) (f := (He.ga K "_can_withdraw")) (c.1.d.def_ 38 (d := dd38) rfl)
  obtain ⟨_, _, _, _, _, _, _, _, _, hl_go_on, hc_go_on, hk_go_on⟩ := rawD (K := K) (x := "_go_on") (qual := "_go_on") (st := s__go_on) (kws := []) (f := (He.ga K "_go_on")) (c.1.d.def_ 39 (d := dd39) rfl)
  obtain ⟨_, _, _, _, _, _, _, _, _, hl_can_grow, hc_can_grow, hk_can_grow⟩ := rawD (K := K) (x := "_can_grow") (qual := "_can_grow") (st := s__can_grow) (kws := []) (f := (He.ga K "_can_grow")) (c.1.d.def_ 40 (d := dd40) rfl)
  obtain ⟨_, _, _, _, _, _, _, _, _, hl_grow, hc_grow, hk_grow⟩ := rawD (K := K) (x := "_grow") (qual := "_grow") (st := s__grow) (kws := []) (f := (He.ga K "_grow")) (c.1.d.def_ 41 (d := dd41) rfl)
  obtain ⟨_, _, _, _, _, _, _, _, _, hl_can_purge, hc_can_purge, hk_can_purge⟩ := rawD (K := K) (x := "_can_purge") (qual := "_can_purge") (st := s__can_purge) (kws := []) (f := (He.ga K "_can_purge")) (c.1.d.def_ 42 (d := dd42) rfl)
  obtain ⟨_, _, _, _, _, _, _, _, _, hl_purge, hc_purge, hk_purge⟩ := rawD (K := K) (x := "_purge") (qual := "_purge") (st := s__purge) (kws := []) (f := (He.ga K "_purge")) (c.1.d.def_ 43 (d := dd43) rfl)
  obtain ⟨_, _, _, _, _, _, _, _, _, hlis_step, hcis_step, hkis_step⟩ := rawD (K := K) (x := "is_step") (qual := "is_step") (st := s_is_step) (kws := []) (f := (He.ga K "is_step")) (c.1.d.def_ 44 (d := dd44) rfl)
  obtain ⟨_, _, _, _, _, _, _, _, _, hlmoments, hcmoments, hkmoments⟩ := rawD (K := K) (x := "moments") (qual := "moments") (st := s_moments) (kws := []) (f := (He.ga K "moments")) (c.1.d.def_ 45 (d := dd45) rfl)
  obtain ⟨_, _, _, _, _, _, _, _, _, hlare_parts, hcare_parts, hkare_parts⟩ := rawD (K := K) (x := "are_parts") (qual := "are_parts") (st := s_are_parts) (kws := []) (f := (He.ga K "are_parts")) (c.1.d.def_ 46 (d := dd46) rfl)
  obtain ⟨_, _, _, _, _, _, _, _, _, hl_is_part, hc_is_part, hk_is_part⟩ := rawD (K := K) (x := "_is_part") (qual := "_is_part") (st := s__is_part) (kws := []) (f := (He.ga K "_is_part")) (c.1.d.def_ 47 (d := dd47) rfl)
  obtain ⟨_, _, _, _, _, _, _, _, _, hlKind___init__, hcKind___init__, hkKind___init__⟩ := rawD (K := K) (x := "__init__") (qual := "Kind.__init__") (st := s_Kind___init__) (kws := []) (f := (He.ma K (He.ga K "Kind") "__init__")) (c.1.d.def_ 48 (d := dd48) rfl)
  obtain ⟨_, _, _, _, _, _, _, _, _, hlKind___contains__, hcKind___contains__, hkKind___contains__⟩ := rawD (K := K) (x := "__contains__") (qual := "Kind.__contains__") (st := s_Kind___contains__) (kws := []) (f := (He.ma K (He.ga K "Kind") "__contains__")) (c.1.d.def_ 49 (d := dd49) rfl)
  obtain ⟨_, _, _, _, _, _, _, _, _, hlKind___eq__, hcKind___eq__, hkKind___eq__⟩ := rawD (K := K) (x := "__eq__") (qual := "Kind.__eq__") (st := s_Kind___eq__) (kws := []) (f := (He.ma K (He.ga K "Kind") "__eq__")) (c.1.d.def_ 50 (d := dd50) rfl)
  obtain ⟨_, _, _, _, _, _, _, _, _, hlKind___le__, hcKind___le__, hkKind___le__⟩ := rawD (K := K) (x := "__le__") (qual := "Kind.__le__") (st := s_Kind___le__) (kws := []) (f := (He.ma K (He.ga K "Kind") "__le__")) (c.1.d.def_ 51 (d := dd51) rfl)
  obtain ⟨_, _, _, _, _, _, _, _, _, hlKind___lt__, hcKind___lt__, hkKind___lt__⟩ := rawD (K := K) (x := "__lt__") (qual := "Kind.__lt__") (st := s_Kind___lt__) (kws := []) (f := (He.ma K (He.ga K "Kind") "__lt__")) (c.1.d.def_ 52 (d := dd52) rfl)
  obtain ⟨_, _, _, _, _, _, _, _, _, hlWorld___init__, hcWorld___init__, hkWorld___init__⟩ := rawD (K := K) (x := "__init__") (qual := "World.__init__") (st := s_World___init__) (kws := []) (f := (He.ma K (He.ga K "World") "__init__")) (c.1.d.def_ 53 (d := dd53) rfl)
  obtain ⟨_, _, _, _, _, _, _, _, _, hl_are_kinds, hc_are_kinds, hk_are_kinds⟩ := rawD (K := K) (x := "_are_kinds") (qual := "_are_kinds") (st := s__are_kinds) (kws := []) (f := (He.ga K "_are_kinds")) (c.1.d.def_ 54 (d := dd54) rfl)
  obtain ⟨_, _, _, _, _, _, _, _, _, hl_are_columns, hc_are_columns, hk_are_columns⟩ := rawD (K := K) (x := "_are_columns") (qual := "_are_columns") (st := s__are_columns) (kws := []) (f := (He.ga K "_are_columns")) (c.1.d.def_ 55 (d := dd55) rfl)
  obtain ⟨_, _, _, _, _, _, _, _, _, hl_are_programs, hc_are_programs, hk_are_programs⟩ := rawD (K := K) (x := "_are_programs") (qual := "_are_programs") (st := s__are_programs) (kws := []) (f := (He.ga K "_are_programs")) (c.1.d.def_ 56 (d := dd56) rfl)
  obtain ⟨_, _, _, _, _, _, _, _, _, hl_is_program, hc_is_program, hk_is_program⟩ := rawD (K := K) (x := "_is_program") (qual := "_is_program") (st := s__is_program) (kws := []) (f := (He.ga K "_is_program")) (c.1.d.def_ 57 (d := dd57) rfl)
  obtain ⟨_, _, _, _, _, _, _, _, _, hl_is_edition, hc_is_edition, hk_is_edition⟩ := rawD (K := K) (x := "_is_edition") (qual := "_is_edition") (st := s__is_edition) (kws := []) (f := (He.ga K "_is_edition")) (c.1.d.def_ 58 (d := dd58) rfl)
  obtain ⟨_, _, _, _, _, _, _, _, _, hl_are_rows, hc_are_rows, hk_are_rows⟩ := rawD (K := K) (x := "_are_rows") (qual := "_are_rows") (st := s__are_rows) (kws := []) (f := (He.ga K "_are_rows")) (c.1.d.def_ 59 (d := dd59) rfl)
  obtain ⟨_, _, _, _, _, _, _, _, _, hl_is_read, hc_is_read, hk_is_read⟩ := rawD (K := K) (x := "_is_read") (qual := "_is_read") (st := s__is_read) (kws := []) (f := (He.ga K "_is_read")) (c.1.d.def_ 60 (d := dd60) rfl)
  obtain ⟨_, _, _, _, _, _, _, _, _, hl_is_write, hc_is_write, hk_is_write⟩ := rawD (K := K) (x := "_is_write") (qual := "_is_write") (st := s__is_write) (kws := []) (f := (He.ga K "_is_write")) (c.1.d.def_ 61 (d := dd61) rfl)
  obtain ⟨_, _, _, _, _, _, _, _, _, hl_is_first_edition, hc_is_first_edition, hk_is_first_edition⟩ := rawD (K := K) (x := "_is_first_edition") (qual := "_is_first_edition") (st := s__is_first_edition) (kws := []) (f := (He.ga K "_is_first_edition")) (c.1.d.def_ 62 (d := dd62) rfl)
  obtain ⟨_, _, _, _, _, _, _, _, _, hl_many_in_two_events, hc_many_in_two_events, hk_many_in_two_events⟩ := rawD (K := K) (x := "_many_in_two_events") (qual := "_many_in_two_events") (st := s__many_in_two_events) (kws := []) (f := (He.ga K "_many_in_two_events")) (c.1.d.def_ 63 (d := dd63) rfl)
  obtain ⟨_, _, _, _, _, _, _, _, _, hl_law_pot_of, hc_law_pot_of, hk_law_pot_of⟩ := rawD (K := K) (x := "_law_pot_of") (qual := "_law_pot_of") (st := s__law_pot_of) (kws := []) (f := (He.ga K "_law_pot_of")) (c.1.d.def_ 64 (d := dd64) rfl)
  obtain ⟨_, _, _, _, _, _, _, _, _, hl_law_take, hc_law_take, hk_law_take⟩ := rawD (K := K) (x := "_law_take") (qual := "_law_take") (st := s__law_take) (kws := []) (f := (He.ga K "_law_take")) (c.1.d.def_ 65 (d := dd65) rfl)
  obtain ⟨_, _, _, _, _, _, _, _, _, hl_law_of, hc_law_of, hk_law_of⟩ := rawD (K := K) (x := "_law_of") (qual := "_law_of") (st := s__law_of) (kws := []) (f := (He.ga K "_law_of")) (c.1.d.def_ 66 (d := dd66) rfl)
  obtain ⟨_, _, _, _, _, _, _, _, _, hl_law_hand_world, hc_law_hand_world, hk_law_hand_world⟩ := rawD (K := K) (x := "_law_hand_world") (qual := "_law_hand_world") (st := s__law_hand_world) (kws := []) (f := (He.ga K "_law_hand_world")) (c.1.d.def_ 67 (d := dd67) rfl)
  obtain ⟨_, _, _, _, _, _, _, _, _, hl_law_names, hc_law_names, hk_law_names⟩ := rawD (K := K) (x := "_law_names") (qual := "_law_names") (st := s__law_names) (kws := []) (f := (He.ga K "_law_names")) (c.1.d.def_ 68 (d := dd68) rfl)
  obtain ⟨_, _, _, _, _, _, _, _, _, hl_law_refused, hc_law_refused, hk_law_refused⟩ := rawD (K := K) (x := "_law_refused") (qual := "_law_refused") (st := s__law_refused) (kws := []) (f := (He.ga K "_law_refused")) (c.1.d.def_ 69 (d := dd69) rfl)
  obtain ⟨_, _, _, _, _, _, _, _, _, hl_law_releases_right, hc_law_releases_right, hk_law_releases_right⟩ := rawD (K := K) (x := "_law_releases_right") (qual := "_law_releases_right") (st := s__law_releases_right) (kws := []) (f := (He.ga K "_law_releases_right")) (c.1.d.def_ 70 (d := dd70) rfl)
  obtain ⟨_, _, _, _, _, _, _, _, _, hl_law_sides_right, hc_law_sides_right, hk_law_sides_right⟩ := rawD (K := K) (x := "_law_sides_right") (qual := "_law_sides_right") (st := s__law_sides_right) (kws := []) (f := (He.ga K "_law_sides_right")) (c.1.d.def_ 71 (d := dd71) rfl)
  obtain ⟨_, _, _, _, _, _, _, _, _, hl_law_numbers_right, hc_law_numbers_right, hk_law_numbers_right⟩ := rawD (K := K) (x := "_law_numbers_right") (qual := "_law_numbers_right") (st := s__law_numbers_right) (kws := []) (f := (He.ga K "_law_numbers_right")) (c.1.d.def_ 72 (d := dd72) rfl)
  obtain ⟨_, _, _, _, _, _, _, _, _, hllaw, hclaw, hklaw⟩ := rawD (K := K) (x := "law") (qual := "law") (st := s_law) (kws := []) (f := (He.ga K "law")) (c.1.d.def_ 73 (d := dd73) rfl)
  exact all_mk (l := l) (w := w) X G hfa (of_decide_eq_true (ex_0 c.2)) (of_decide_eq_true (ex_1 c.2)) (ex_2 c.2) (of_decide_eq_true (ex_3 c.2)) (of_decide_eq_true (ex_4 c.2)) (of_decide_eq_true (ex_5 c.2)) (of_decide_eq_true (ex_6 c.2)) (of_decide_eq_true (ex_7 c.2)) he1BadSpan (of_decide_eq_true (ex_9 c.2)) (of_decide_eq_true (ex_10 c.2)) (of_decide_eq_true (ex_11 c.2)) (ex_12 c.2) (of_decide_eq_true (ex_13 c.2)) (of_decide_eq_true (ex_14 c.2)) (ex_15 c.2) (of_decide_eq_true (ex_16 c.2)) (of_decide_eq_true (ex_17 c.2)) (of_decide_eq_true (ex_18 c.2)) (of_decide_eq_true (ex_19 c.2)) (of_decide_eq_true (ex_20 c.2)) (of_decide_eq_true (ex_21 c.2)) he1BadPlan (of_decide_eq_true (ex_23 c.2)) (of_decide_eq_true (ex_24 c.2)) (of_decide_eq_true (ex_25 c.2)) (ex_26 c.2) (of_decide_eq_true (ex_27 c.2)) (of_decide_eq_true (ex_28 c.2)) (ex_29 c.2) (of_decide_eq_true (ex_30 c.2)) (of_decide_eq_true (ex_31 c.2)) (of_decide_eq_true (ex_32 c.2)) (of_decide_eq_true (ex_33 c.2)) (of_decide_eq_true (ex_34 c.2)) (of_decide_eq_true (ex_35 c.2)) (ex_36 c.2) (ex_37 c.2) (ex_38 c.2) (of_decide_eq_true (ex_39 c.2)) (ex_40 c.2) (ex_41 c.2) (of_decide_eq_true (ex_42 c.2)) (of_decide_eq_true (ex_43 c.2)) (of_decide_eq_true (ex_44 c.2)) (of_decide_eq_true (ex_45 c.2)) (of_decide_eq_true (ex_46 c.2)) (of_decide_eq_true (ex_47 c.2)) (of_decide_eq_true (ex_48 c.2)) (ex_49 c.2) (ex_50 c.2) (ex_51 c.2) (of_decide_eq_true (ex_52 c.2)) (ex_53 c.2) (ex_54 c.2) (of_decide_eq_true (ex_55 c.2)) (of_decide_eq_true (ex_56 c.2)) (of_decide_eq_true (ex_57 c.2)) (of_decide_eq_true (ex_58 c.2)) (of_decide_eq_true (ex_59 c.2)) (of_decide_eq_true (ex_60 c.2)) (ex_61 c.2) (ex_62 c.2) (ex_63 c.2) (of_decide_eq_true (ex_64 c.2)) (ex_65 c.2) (ex_66 c.2) (of_decide_eq_true (ex_67 c.2)) (of_decide_eq_true (ex_68 c.2)) (of_decide_eq_true (ex_69 c.2)) (of_decide_eq_true (ex_70 c.2)) (of_decide_eq_true (ex_71 c.2)) (of_decide_eq_true (ex_72 c.2)) (of_decide_eq_true (ex_73 c.2)) (of_decide_eq_true (ex_74 c.2)) (of_decide_eq_true (ex_75 c.2)) (of_decide_eq_true (ex_76 c.2)) hgnMOST_LETTERS hgnMOST_STEPS hgnLEAST_NUMBERS hgnLEAST_NARROW hgnMOST_PACE hgnMOST_IN_TWO_EVENTS (of_decide_eq_true (ex_83 c.2)) (of_decide_eq_true (ex_84 c.2)) (of_decide_eq_true (ex_85 c.2)) (of_decide_eq_true (ex_86 c.2)) (of_decide_eq_true (ex_87 c.2)) (of_decide_eq_true (ex_88 c.2)) (of_decide_eq_true (ex_89 c.2)) (of_decide_eq_true (ex_90 c.2)) (of_decide_eq_true (ex_91 c.2)) (of_decide_eq_true (ex_92 c.2)) (of_decide_eq_true (ex_93 c.2)) (of_decide_eq_true (ex_94 c.2)) (of_decide_eq_true (ex_95 c.2)) (of_decide_eq_true (ex_96 c.2)) (of_decide_eq_true (ex_97 c.2)) (of_decide_eq_true (ex_98 c.2)) (of_decide_eq_true (ex_99 c.2)) (tab_raw c.1 0 rfl) (ex_100 c.2) (of_decide_eq_true (ex_101 c.2)) (tab_raw c.1 1 rfl) (of_decide_eq_true (ex_102 c.2)) (of_decide_eq_true (ex_103 c.2)) (of_decide_eq_true (ex_104 c.2)) (of_decide_eq_true (ex_105 c.2)) (of_decide_eq_true (ex_106 c.2)) (of_decide_eq_true (ex_107 c.2)) (of_decide_eq_true (ex_108 c.2)) (of_decide_eq_true (ex_109 c.2)) (of_decide_eq_true (ex_110 c.2)) (of_decide_eq_true (ex_111 c.2)) (of_decide_eq_true (ex_112 c.2)) (of_decide_eq_true (ex_113 c.2)) (of_decide_eq_true (ex_114 c.2)) (tab_raw c.1 2 rfl) (of_decide_eq_true (ex_115 c.2)) (of_decide_eq_true (ex_116 c.2)) (of_decide_eq_true (ex_117 c.2)) (of_decide_eq_true (ex_118 c.2)) (of_decide_eq_true (ex_119 c.2)) (of_decide_eq_true (ex_120 c.2)) (of_decide_eq_true (ex_121 c.2)) (of_decide_eq_true (ex_122 c.2)) (of_decide_eq_true (ex_123 c.2)) (of_decide_eq_true (ex_124 c.2)) (of_decide_eq_true (ex_125 c.2)) (of_decide_eq_true (ex_126 c.2)) (of_decide_eq_true (ex_127 c.2)) (of_decide_eq_true (ex_128 c.2)) (of_decide_eq_true (ex_129 c.2)) (of_decide_eq_true (ex_130 c.2)) hleditions_of hceditions_of hkeditions_of (of_decide_eq_true (ex_131 c.2)) hlother_side hcother_side hkother_side (of_decide_eq_true (ex_132 c.2)) (ex_133 c.2) hlBadSpan___init__ hcBadSpan___init__ hkBadSpan___init__ (of_decide_eq_true (ex_134 c.2)) (ex_135 c.2) hlBadPlan___init__ hcBadPlan___init__ hkBadPlan___init__ (of_decide_eq_true (ex_136 c.2)) hlis_integer hcis_integer hkis_integer (of_decide_eq_true (ex_137 c.2)) hlis_between hcis_between hkis_between (of_decide_eq_true (ex_138 c.2)) hllesser hclesser hklesser (of_decide_eq_true (ex_139 c.2)) hlgreater hcgreater hkgreater (of_decide_eq_true (ex_140 c.2)) hlis_name hcis_name hkis_name (of_decide_eq_true (ex_141 c.2)) hlis_tuple_of hcis_tuple_of hkis_tuple_of (of_decide_eq_true (ex_142 c.2)) hlis_ascending hcis_ascending hkis_ascending (of_decide_eq_true (ex_143 c.2)) hlstep_form hcstep_form hkstep_form (of_decide_eq_true (ex_144 c.2)) hlis_plain_part hcis_plain_part hkis_plain_part (of_decide_eq_true (ex_145 c.2)) hlis_count hcis_count hkis_count (of_decide_eq_true (ex_146 c.2)) hl_first_word hc_first_word hk_first_word (of_decide_eq_true (ex_147 c.2)) hlis_span hcis_span hkis_span (of_decide_eq_true (ex_148 c.2)) hlis_fit hcis_fit hkis_fit (of_decide_eq_true (ex_149 c.2)) hl_are_none_or_many hc_are_none_or_many hk_are_none_or_many (of_decide_eq_true (ex_150 c.2)) (ex_151 c.2) hlSetup___init__ hcSetup___init__ hkSetup___init__ (of_decide_eq_true (ex_152 c.2)) (ex_153 c.2) hlSetup_behind_begin hcSetup_behind_begin hkSetup_behind_begin (of_decide_eq_true (ex_154 c.2)) (ex_155 c.2) hlSetup_behind_end hcSetup_behind_end hkSetup_behind_end (of_decide_eq_true (ex_156 c.2)) (ex_157 c.2) hlSetup_what_holds hcSetup_what_holds hkSetup_what_holds (of_decide_eq_true (ex_158 c.2)) hl_twin hc_twin hk_twin (of_decide_eq_true (ex_159 c.2)) hl_running hc_running hk_running (of_decide_eq_true (ex_160 c.2)) hl_can_add hc_can_add hk_can_add (of_decide_eq_true (ex_161 c.2)) hl_add hc_add hk_add (of_decide_eq_true (ex_162 c.2)) hl_can_drop hc_can_drop hk_can_drop (of_decide_eq_true (ex_163 c.2)) hl_drop hc_drop hk_drop (of_decide_eq_true (ex_164 c.2)) hl_can_mirror_up hc_can_mirror_up hk_can_mirror_up (of_decide_eq_true (ex_165 c.2)) hl_mirror_up hc_mirror_up hk_mirror_up (of_decide_eq_true (ex_166 c.2)) hl_is_up hc_is_up hk_is_up (of_decide_eq_true (ex_167 c.2)) hl_end_up hc_end_up hk_end_up (of_decide_eq_true (ex_168 c.2)) hl_can_mirror_down hc_can_mirror_down hk_can_mirror_down (of_decide_eq_true (ex_169 c.2)) hl_mirror_down hc_mirror_down hk_mirror_down (of_decide_eq_true (ex_170 c.2)) hl_is_down hc_is_down hk_is_down (of_decide_eq_true (ex_171 c.2)) hl_end_down hc_end_down hk_end_down (of_decide_eq_true (ex_172 c.2)) hl_has_both hc_has_both hk_has_both (of_decide_eq_true (ex_173 c.2)) hl_can_release hc_can_release hk_can_release (of_decide_eq_true (ex_174 c.2)) hl_can_withdraw hc_can_withdraw hk_can_withdraw (of_decide_eq_true (ex_175 c.2)) hl_go_on hc_go_on hk_go_on (of_decide_eq_true (ex_176 c.2)) hl_can_grow hc_can_grow hk_can_grow (of_decide_eq_true (ex_177 c.2)) hl_grow hc_grow hk_grow (of_decide_eq_true (ex_178 c.2)) hl_can_purge hc_can_purge hk_can_purge (of_decide_eq_true (ex_179 c.2)) hl_purge hc_purge hk_purge (of_decide_eq_true (ex_180 c.2)) hlis_step hcis_step hkis_step (of_decide_eq_true (ex_181 c.2)) hlmoments hcmoments hkmoments (of_decide_eq_true (ex_182 c.2)) hlare_parts hcare_parts hkare_parts (of_decide_eq_true (ex_183 c.2)) hl_is_part hc_is_part hk_is_part (of_decide_eq_true (ex_184 c.2)) (ex_185 c.2) hlKind___init__ hcKind___init__ hkKind___init__ (of_decide_eq_true (ex_186 c.2)) (ex_187 c.2) hlKind___contains__ hcKind___contains__ hkKind___contains__ (of_decide_eq_true (ex_188 c.2)) (ex_189 c.2) hlKind___eq__ hcKind___eq__ hkKind___eq__ (of_decide_eq_true (ex_190 c.2)) (ex_191 c.2) hlKind___le__ hcKind___le__ hkKind___le__ (of_decide_eq_true (ex_192 c.2)) (ex_193 c.2) hlKind___lt__ hcKind___lt__ hkKind___lt__ (of_decide_eq_true (ex_194 c.2)) (ex_195 c.2) hlWorld___init__ hcWorld___init__ hkWorld___init__ (of_decide_eq_true (ex_196 c.2)) hl_are_kinds hc_are_kinds hk_are_kinds (of_decide_eq_true (ex_197 c.2)) hl_are_columns hc_are_columns hk_are_columns (of_decide_eq_true (ex_198 c.2)) hl_are_programs hc_are_programs hk_are_programs (of_decide_eq_true (ex_199 c.2)) hl_is_program hc_is_program hk_is_program (of_decide_eq_true (ex_200 c.2)) hl_is_edition hc_is_edition hk_is_edition (of_decide_eq_true (ex_201 c.2)) hl_are_rows hc_are_rows hk_are_rows (of_decide_eq_true (ex_202 c.2)) hl_is_read hc_is_read hk_is_read (of_decide_eq_true (ex_203 c.2)) hl_is_write hc_is_write hk_is_write (of_decide_eq_true (ex_204 c.2)) hl_is_first_edition hc_is_first_edition hk_is_first_edition (of_decide_eq_true (ex_205 c.2)) hl_many_in_two_events hc_many_in_two_events hk_many_in_two_events (of_decide_eq_true (ex_206 c.2)) hl_law_pot_of hc_law_pot_of hk_law_pot_of (of_decide_eq_true (ex_207 c.2)) hl_law_take hc_law_take hk_law_take (of_decide_eq_true (ex_208 c.2)) hl_law_of hc_law_of hk_law_of (of_decide_eq_true (ex_209 c.2)) hl_law_hand_world hc_law_hand_world hk_law_hand_world (of_decide_eq_true (ex_210 c.2)) hl_law_names hc_law_names hk_law_names (of_decide_eq_true (ex_211 c.2)) hl_law_refused hc_law_refused hk_law_refused (of_decide_eq_true (ex_212 c.2)) hl_law_releases_right hc_law_releases_right hk_law_releases_right (of_decide_eq_true (ex_213 c.2)) hl_law_sides_right hc_law_sides_right hk_law_sides_right (of_decide_eq_true (ex_214 c.2)) hl_law_numbers_right hc_law_numbers_right hk_law_numbers_right (of_decide_eq_true (ex_215 c.2)) hllaw hclaw hklaw (of_decide_eq_true (ex_216 c.2)) (of_decide_eq_true (ex_217 c.2)) (of_decide_eq_true (ex_218 c.2)) (of_decide_eq_true (ex_219 c.2)) (of_decide_eq_true (ex_220 c.2)) (of_decide_eq_true (ex_221 c.2)) (of_decide_eq_true (ex_222 c.2)) (of_decide_eq_true (ex_223 c.2)) (of_decide_eq_true (ex_224 c.2)) (of_decide_eq_true (ex_225 c.2)) (of_decide_eq_true (ex_226 c.2)) (of_decide_eq_true (ex_227 c.2)) (of_decide_eq_true (ex_228 c.2)) (of_decide_eq_true (ex_229 c.2)) (of_decide_eq_true (ex_230 c.2)) (of_decide_eq_true (ex_231 c.2)) (of_decide_eq_true (ex_232 c.2)) (of_decide_eq_true (ex_233 c.2))
end Zd
open PySem PySem.W PySem.Calls PyProof.Rows in
set_option maxRecDepth 100000 in
set_option maxHeartbeats 0 in
theorem PySem.Challenge.cw_widerkeys_k22_steps_by_hand_holds : PySem.Challenge.rw_widerkeys_k22_steps_by_hand.Holds := by
  w_on; o_law
  refine HandSHeadRun.head_any (r := OpenLaw.row PySem.Challenge.rw_widerkeys_k22_steps_by_hand) (q := view (OpenLaw.row PySem.Challenge.rw_widerkeys_k22_steps_by_hand).prog [105]) (H := Zd.hk) (ob := Zd.ob) (M := 7000) (loose := Zd.los) (d := HandSHeadRun.topDef (OpenLaw.row PySem.Challenge.rw_widerkeys_k22_steps_by_hand).prog 105) (kwd := []) Zd.ob_eq
    (by kernel_rfl) (fun s => by kernel_rfl) Zd.run (by kernel_rfl) (by kernel_rfl) (by kernel_rfl) (by rfl) (by first | assumption | decide +kernel) (by decide +kernel) ⟨rfl, rfl, rfl, rfl, rfl, by decide +kernel⟩ ?hw ?hc
  case hw => w_witness2
  case hc =>
    refine Zd.walkGE (l := PySem.Challenge.rw_widerkeys_k22_steps_by_hand) (n := 63) (sp := Zd.spLaw) (x := "_law_script") (k := 10) rfl (by decide) (by kernel_rfl) ⟨rfl, by decide, by decide⟩ ?F (fun K H a ns hl hS => ⟨a, ns, rfl, hS, hl, fun _ => rfl⟩)
    intro w mg fa h Y G hmg0
    obtain ⟨K, KX, c⟩ := Y
    have hmg : mg ("law" : PySem.Str) = some (.ref fa) := by
      have e : (HandSHeadRun.topDef (OpenLaw.row PySem.Challenge.rw_widerkeys_k22_steps_by_hand).prog 105).name = ("law" : PySem.Str) := by kernel_rfl
      rw [← e]
      exact hmg0
    obtain ⟨fd, hb, hF⟩ := Zd.facts (l := PySem.Challenge.rw_widerkeys_k22_steps_by_hand) (w := w) KX G hmg c
    exact ⟨K, fd, KX, hb, hF⟩
