import PyProof.Rows.All
import Wide.All
import OpenK.AllK
import Wide.FinOn
import HandS.ForMost
import HandS.ExcInit
import HandS.WideBits
import HandS.Wide
import HandS.CallSlots
import HandS.FStrTup
import HandS.ExcIs
import HandS.ExcField
import HandS.ExcValue
import KE.KIsAll
import KE.KTryMore
import PySem.Challenge.RW_allhelms_k01_errors_each_of_its_own
set_option Elab.async false
set_option linter.all false
set_option maxRecDepth 100000
set_option maxHeartbeats 4000000
namespace Vx
open PySem PySem.Spec PyProof.Rows L2

/-- no repr is under way -/
abbrev Ng (A : Around) : Prop := A.guards = some []

/-- a promise that is kept where no repr is under way -/
structure FnG (P : Program) (w : World) (K : PySem.W.Frag) (mg : Str → Option Value) (base : Heap) (Z : CXT) (k : Nat)
    (f : Addr) (fd : FuncData) (ps : List Str) (sp : Sp) : Prop where
  len : ∀ vs H Q E, sp vs H Q E → vs.length = ps.length
  go : ∀ (A : Around) (out : List Env) (s : Shared) (H : Hp) (ar : Args) (us : List Value) (vs : List V) (Q : VK) (E : XK),
    Room k A → Ng A → Env0 P w K mg base A out s H → BindsTo s fd ar (ps.zip us) → Vals vs us → sp vs H Q E →
      codeAny (model P w) A (.call (.ref f) ar) (CR Z out P w H s Q E) s

section
variable {P : Program} {w : World} {K : PySem.W.Frag} {mg : Str → Option Value} {base : Heap} {Z : CXT} {k : Nat} {f : Addr}
theorem FnG.of {fd : FuncData} {ps : List Str} {sp : Sp} (F : FnOk P w K mg base Z k f fd ps sp) : FnG P w K mg base Z k f fd ps sp :=
  ⟨F.len, fun A o s H ar us vs Q E r _ e b v h => F.run A o s H ar us vs Q E r e b v h⟩

theorem gfn {nm qn : Str} {pr : Arguments} {body : List Stmt} {sc : Scope} {dV kV doc pm cv ct oc : Value} {an od : Option Addr}
    {osl : Array (Option Value)} {N ps : List Str} {sp : Sp}
    (lk : K.lookup f = some ⟨oc, od, .func (PySem.W.fnOf nm qn pr body sc dV kV doc pm an cv ct), osl⟩)
    (hc : PySem.W.codeIn K cv qn = true) (S : FnScope N ps sc) (len : ∀ vs H Q E, sp vs H Q E → vs.length = ps.length)
    (hb : ∀ (A : Around) (out : List Env) (s : Shared) (H : Hp) (vs : List V) (Q : VK) (E : XK), Ng A →
      Room k (A.deeper (envOfC qn sc s.heap.objs.size f cv)) → sp vs H Q E →
      ∃ t, PSs (cxOf Z P w K mg base N qn sc f cv A out s H E) body t ∧
        t { nx := fun _ H' => Q .non H', rt := Q } (start N vs) H) :
    FnG P w K mg base Z (k + 1) f (PySem.W.fnOf nm qn pr body sc dV kV doc pm an cv ct) ps sp := by
  refine ⟨len, ?_⟩
  intro A out s H ar us vs Q E hr hg e0 hbd r hsp
  have L := len _ _ _ _ hsp
  have KX : K.In s.heap := e0.mod.kin.keeps (fun b o e => (e0.bs b o e).1)
  have lim : s.heap.NoLimit := e0.mod.nolimit.keeps (fun b o e => (e0.bs b o e).1)
  have kd : ∀ y ∈ ps.zip us, sc.names.lookup y.1 = some .local ∨
      (sc.names.lookup y.1 = some .cell ∧ ((cellsFrom (s.heap.objs.size + 1) sc.names []).lookup y.1).isSome = true) := by
    rintro ⟨n, v⟩ hy
    rcases S.par n (List.of_mem_zip hy).1 with q | q
    · exact Or.inl q
    · exact Or.inr ⟨q, PySem.W.cellsFrom_some _ _ _ (Or.inl q)⟩
  refine codeAny_call_function hr.depth (KX _ _ lk) rfl S.co S.gen rfl (PySem.W.codeRec_of KX hc) (hbd _ _ _ _ ?_)
  refine wpAny_newFunctionEnv_cells S.kind kd ?_
  intro env he s1 x
  subst he
  refine ⟨lim.keeps x.toInCall.keep, codeAny_func ?_⟩
  obtain ⟨t, ht, hq⟩ := hb A out s H vs Q E hg (hr.deeper _) hsp
  have I := inv_start (CX := Z) (E := E) S hr.hd e0 L r x
  refine wpAny_mono (ht.run [] s1 (start N vs) H _ I hq) ?_ (fun _ _ z => z)
  intro fl s' hs
  cases fl with
  | ret u =>
    obtain ⟨v, σ', H', J, rv, q⟩ := hs
    exact ⟨v, H', J.os, J.bare, J.base, J.hok, rv, q⟩
  | next =>
    obtain ⟨σ', H', J, q⟩ := hs
    exact ⟨V.non, H', J.os, J.bare, J.base, J.hok, rfl, q⟩
  | brk =>
    obtain ⟨_, _, _, q⟩ := hs
    exact q.elim
  | cont =>
    obtain ⟨_, _, _, q⟩ := hs
    exact q.elim

/-- a def from which no exception leaves -/
theorem gok {x qn : Str} {st : Stmt} {fd : FuncData} {N ps : List Str} {sp : Sp} (F : Fun K x qn st f fd) (S : FnScope N ps (defScope st))
    (len : ∀ vs H Q E, sp vs H Q E → vs.length = ps.length)
    (hb : ∀ (cv : Value) (A : Around) (out : List Env) (s : Shared) (H : Hp) (vs : List V) (Q : VK) (E : XK), Ng A →
      Room k (A.deeper (envOfC qn (defScope st) s.heap.objs.size f cv)) → sp vs H Q E →
      ∃ t, PSs (cxOf CX0 P w K mg base N qn (defScope st) f cv A out s H E).nox (defBody st) t ∧
        t { nx := fun _ H' => Q .non H', rt := Q } (start N vs) H) : FnG P w K mg base CX0 (k + 1) f fd ps sp := by
  obtain ⟨oc, od, kV, doc, pm, an, cv, ct, osl, rfl, lk, hc⟩ := F.ex
  refine gfn lk hc S len ?_
  intro A out s H vs Q E hg hr hsp
  obtain ⟨t, h, q⟩ := hb cv A out s H vs Q E hg hr hsp
  exact ⟨t, h.nox, q⟩
end

section
variable {X : Cx} {Z : CXT} {k : Nat} {f : Addr} {fd : FuncData} {ps : List Str} {sp : Sp} {dvs : List V} {ds : List Value}
  {E : XK} {x : Str} {p pos : Pos} {e : Expr} {es : List Expr} {t : TA}
/-- f(e, ..) of such a def -/
theorem pe_g (F : FnG X.prog X.w X.K X.mg X.base Z k f fd ps sp) (hr : Room k X.A) (ng : Ng X.A) (hg : Gl X x) (hm : X.mg x = some (.ref f))
    (hk : PySem.W.keepIn X.K (.ref f) = true) (hb : Binds X.K fd ps ds) (hd : Vals dvs ds) (hx : Passes Z X E) (ha : PA X (e :: es) t)
    (hdb : (x == ("__debug__" : Str)) = false := by decide)
    (he : starEach (e :: es) X.env = (false, eval e X.env) :: starEach es X.env := by rfl)
    (hpl : (backTo pos (starEach es X.env)).any (·.1) = false := by rfl) :
    PE X (.Call (.Name x p) (e :: es) [] pos) (tCall sp dvs E t) := by
  refine ⟨fun pins s σ H Q I h => ?_⟩
  refine wpAny_Call_Name_kw (ld_glob I hg hm ?_ hdb)
  refine PySem.W.callWith_K (h₀ := X.base) I.ok.mod.kin hk (thn (ha.run pos pins s σ H _ I h) ?_) he hpl
  rintro us s1 ⟨vs, H1, I1, r, q⟩
  refine ⟨I1.kIn, ?_⟩
  have r2 : Vals (vs ++ dvs) (us ++ ds) := r.append hd
  have L : (us ++ ds).length = ps.length := r2.length.symm.trans (F.len _ _ _ _ q)
  refine wpAny_call (codeAny_mono (F.go X.A X.stack s1 H1 ⟨us, []⟩ (us ++ ds) (vs ++ dvs) Q E hr ng I1.env0 (hb s1 us I1.kIn L) r2 q) ?_)
  intro r s' hq
  cases r with
  | error e => exact hx pins σ H1 s1 e s' I1 hq
  | ok fl =>
    cases fl with
    | ret u => exact I1.after hq
    | next => exact hq.elim
    | brk => exact hq.elim
    | cont => exact hq.elim
end

/-! what an abstract heap shows -/
mutual
/-- v is the data d -/
inductive Rp (K : PySem.W.Frag) (H : Hp) : V → PyData → Prop
  | non : Rp K H .non .none
  | bl (b : Bool) : Rp K H (.bl b) (.bool b)
  | int (i : Int) : Rp K H (.int i) (.int i)
  | str (x : Str) : Rp K H (.str x) (.str x)
  | lst {a : Addr} {xs : List V} {ds : List PyData} : SqL K H a xs → RpA K H xs ds → Rp K H (.ref a) (.list ds)
  | tup {a : Addr} {xs : List V} {ds : List PyData} : SqT K H a xs → RpA K H xs ds → Rp K H (.ref a) (.tuple ds)
  | dic {a : Addr} {kvs : List (Key × V)} {ds : List PyData} : H a = some (.dK kvs) → RpA K H (kvs.map (·.2)) ds →
      Rp K H (.ref a) (.dict ((kvs.map fun p => match p.1 with | .inl i => PyData.int i | .inr x => PyData.str x).zip ds))
inductive RpA (K : PySem.W.Frag) (H : Hp) : List V → List PyData → Prop
  | nil : RpA K H [] []
  | cons {v : V} {vs : List V} {d : PyData} {ds : List PyData} : Rp K H v d → RpA K H vs ds → RpA K H (v :: vs) (d :: ds)
end

theorem RpA.length {K : PySem.W.Frag} {H : Hp} : ∀ {vs : List V} {ds : List PyData}, RpA K H vs ds → vs.length = ds.length
  | _, _, .nil => rfl
  | _, _, .cons _ t => by rw [List.length_cons, List.length_cons, RpA.length t]

/-- tracked things stay -/
theorem same_seqT {K : PySem.W.Frag} {H H' : Hp} {a : Addr} {xs : List V} (e : Same H H') (h : SqT K H a xs) : SqT K H' a xs := by
  rcases h with (h | ⟨o, h⟩) | h
  · exact Or.inl (Or.inl (e _ _ h))
  · exact Or.inl (Or.inr ⟨o, e _ _ h⟩)
  · exact Or.inr h
mutual
theorem Rp.mono {K : PySem.W.Frag} {H H' : Hp} (e : Same H H') : ∀ {v : V} {d : PyData}, Rp K H v d → Rp K H' v d
  | _, _, .non => .non
  | _, _, .bl b => .bl b
  | _, _, .int i => .int i
  | _, _, .str x => .str x
  | _, _, .lst h r => .lst (e.seq h) (RpA.mono e r)
  | _, _, .tup h r => .tup (same_seqT e h) (RpA.mono e r)
  | _, _, .dic h r => .dic (e _ _ h) (RpA.mono e r)
theorem RpA.mono {K : PySem.W.Frag} {H H' : Hp} (e : Same H H') : ∀ {vs : List V} {ds : List PyData}, RpA K H vs ds → RpA K H' vs ds
  | _, _, .nil => .nil
  | _, _, .cons a t => .cons (Rp.mono e a) (RpA.mono e t)
end

/-- sys.modules stands in the heap as a dict -/
def Sys (h : Heap) : Prop := ∃ o es n, h.get? sysModules = some o ∧ o.data = .dict es n

theorem pairs_keys {P : Program} {w : World} {h : Heap} : ∀ {es : List DictEntry} {kvs : List (Key × Value)}, Pairs (mixKind P w) es kvs →
    ReadsAll h (es.map (·.key)) (kvs.map fun p => match p.1 with | .inl i => PyData.int i | .inr x => PyData.str x) []
  | _, _, .nil => .nil
  | _, _, .cons (e := e) (kv := kv) hk _ t => by
    have r := pairs_keys (h := h) t
    rw [List.map_cons, List.map_cons]
    obtain ⟨k, v⟩ := kv
    have hk' : keyIs k e.key = true := hk
    rcases keyIs_shape hk' with ⟨i, t, rfl, e2⟩ | ⟨x, t, rfl, e2⟩
    · rw [e2]; exact ReadsAll.cons (as := []) (.int i t) r
    · rw [e2]; exact ReadsAll.cons (as := []) (.str x t) r
theorem pairs_vals {P : Program} {w : World} : ∀ {es : List DictEntry} {kvs : List (Key × Value)}, Pairs (mixKind P w) es kvs → es.map (·.val) = kvs.map (·.2)
  | _, _, .nil => rfl
  | _, _, .cons _ hv t => by rw [List.map_cons, List.map_cons, pairs_vals t, hv]
theorem kv_fst : ∀ {kvs : List (Key × V)} {vs : List (Key × Value)}, KV kvs vs → kvs.map (·.1) = vs.map (·.1)
  | _, _, .nil => rfl
  | _, _, .cons h t => by rw [List.map_cons, List.map_cons, kv_fst t, h.1]
theorem kv_snd : ∀ {kvs : List (Key × V)} {vs : List (Key × Value)}, KV kvs vs → Vals (kvs.map (·.2)) (vs.map (·.2))
  | _, _, .nil => .nil
  | _, _, .cons h t => .cons h.2 (kv_snd t)

section
variable {X : Cx} {pins : List (Addr × Obj)} {σ : L2.St} {H : Hp} {s : Shared}
theorem Inv.sys_ne (I : Inv X pins σ H s) (S : Sys X.base) {a : Addr} {o : HO} (h : H a = some o) : a ≠ sysModules := fun z => by
  obtain ⟨ob, _, _, hb, _⟩ := S
  have q := (I.bs _ _ hb).2
  rw [z] at h
  rw [h] at q
  cases q
theorem Inv.sys_seq (I : Inv X pins σ H s) (S : Sys X.base) {a : Addr} {o : Obj} {vs : Array Value} {n : Nat} (h : s.heap.get? a = some o) (d : o.data = .seq vs n) : a ≠ sysModules := fun z => by
  obtain ⟨ob, es, m, hb, hd⟩ := S
  have q := (I.bs _ _ hb).1
  rw [z, q] at h
  cases h
  rw [hd] at d
  cases d
mutual
theorem Rp.reads (I : Inv X pins σ H s) (S : Sys X.base) : ∀ {v : V} {d : PyData} {u : Value}, Rp X.K H v d → RelV v u →
    ∃ as, Reads s.heap u d as ∧ sysModules ∉ as
  | _, _, _, .non, r => ⟨[], by cases r; exact .none, List.not_mem_nil⟩
  | _, _, _, .bl b, r => ⟨[], by cases r; exact .bool b, List.not_mem_nil⟩
  | _, _, _, .int i, r => ⟨[], by obtain ⟨t, rfl⟩ := r; exact .int i t, List.not_mem_nil⟩
  | _, _, _, .str x, r => ⟨[], by obtain ⟨t, rfl⟩ := r; exact .str x t, List.not_mem_nil⟩
  | _, _, _, .lst (a := a) h q, r => by
    cases r
    obtain ⟨its, rv, ⟨o, n, ho, hc, _, hd⟩, _⟩ := I.list h
    obtain ⟨as, ra, na⟩ := RpA.reads I S q rv
    refine ⟨a :: as, .list ho hc hd (by simpa using ra), fun z => ?_⟩
    rcases List.mem_cons.mp z with z | z
    · exact Inv.sys_seq I S ho hd z.symm
    · exact na z
  | _, _, _, .tup (a := a) h q, r => by
    cases r
    obtain ⟨its, rv, ⟨o, ho, hc, n, hd⟩, _⟩ := I.tuple h
    obtain ⟨as, ra, na⟩ := RpA.reads I S q rv
    exact ⟨as, .tuple ho hc hd (by simpa using ra), na⟩
  | _, _, _, .dic (a := a) (kvs := kvs) (ds := ds) h q, r => by
    cases r
    obtain ⟨hl, hn, vs, kv, o, es, ep, ho, hx, hd, _, hp, _⟩ := I.hok a _ h
    obtain ⟨as, ra, na⟩ := RpA.reads I S q (kv_snd kv)
    have hlen : (kvs.map fun p => match p.1 with | .inl i => PyData.int i | .inr x => PyData.str x).length = ds.length := by
      rw [List.length_map, ← RpA.length q, List.length_map]
    have ek : (kvs.map fun p => match p.1 with | .inl i => PyData.int i | .inr x => PyData.str x) = (vs.map fun p => match p.1 with | .inl i => PyData.int i | .inr x => PyData.str x) := by
      have := congrArg (List.map fun k : Key => match k with | .inl i => PyData.int i | .inr x => PyData.str x) (kv_fst kv)
      simpa [List.map_map, Function.comp_def] using this
    refine ⟨a :: [] ++ as, .dict (n := ep) (es := es) ho hx.1 hd ?_ ?_, fun z => ?_⟩
    · rw [List.map_fst_zip (by rw [hlen]; exact Nat.le_refl _), ek]
      exact pairs_keys hp
    · rw [List.map_snd_zip (by rw [hlen]; exact Nat.le_refl _), pairs_vals hp]
      exact ra
    · rcases List.mem_cons.mp z with z | z
      · rw [← z] at hn
        exact absurd hn (by decide)
      · exact na z
theorem RpA.reads (I : Inv X pins σ H s) (S : Sys X.base) : ∀ {vs : List V} {ds : List PyData} {us : List Value}, RpA X.K H vs ds → Vals vs us →
    ∃ as, ReadsAll s.heap us ds as ∧ sysModules ∉ as
  | _, _, _, .nil, r => by cases r; exact ⟨[], .nil, List.not_mem_nil⟩
  | _, _, _, .cons h t, r => by
    cases r with
    | cons r1 r2 =>
      obtain ⟨a1, q1, n1⟩ := Rp.reads I S h r1
      obtain ⟨a2, q2, n2⟩ := RpA.reads I S t r2
      exact ⟨a1 ++ a2, .cons q1 q2, fun z => (List.mem_append.mp z).elim n1 n2⟩
end
/-- repr of a list, a tuple, a dict -/
theorem call_repr (S : Sys X.base) (ng : Ng X.A) (hu : X.A.units + 64 < cLine) : CallR X (.builtin "repr") (fun xs H Q => ∃ a d, xs = [.ref a] ∧ Rp X.K H (.ref a) d ∧
    d.showable = true ∧ d.depth < 60 ∧ d.shown.length ≤ sizeLine ∧ Q (.str d.shown) H) := by
  intro pins s σ H xs us Q I r h
  obtain ⟨a, d, rfl, hr, hs, hd, hz, q⟩ := h
  obtain ⟨u, rfl, ru⟩ := vals1 r
  cases ru
  obtain ⟨as, ra, na⟩ := Rp.reads I S hr (show RelV (V.ref a) (Value.ref a) from rfl)
  refine repr_of_reads' ra hs (fun _ => na) ng (by omega) (fun _ _ z => z) (fun h' u tk hk => ?_) hz
  exact ⟨.str _, H, I.kept hk, ⟨_, rfl⟩, q⟩
end
end Vx
namespace Vx
open PySem PySem.Spec PyProof.Rows L2

theorem sys_of {h : Heap} (n : h.NoSeer) : Sys h := by
  obtain ⟨mm, ⟨o, es, ep, ho, hd, _⟩, _⟩ := n.mods
  exact ⟨o, es, ep, ho, hd⟩

/-- from any abstract heap that holds the script alone -/
theorem call_end {P : Program} {w : World} {K : PySem.W.Frag} {mg mb : Str → Option Value} {k : Nat} {fa a : Addr} {fd : FuncData} {x : Str} {sp : Sp}
    {s₁ : Shared} {vs : List Value} {xs : List V} {H : Hp} (KX : K.In s₁.heap) (hns : s₁.heap.Ns mainGlobals mg) (hb : s₁.heap.Ns builtinsNs mb)
    (hbb : ∀ x : Str, x ≠ "__name__" → mb x = bootBuiltins x) (lim : s₁.heap.NoLimit) (sy : Sys s₁.heap) (hg : s₁.gens = #[])
    (ha : s₁.heap.get? a = some { cls := .type "list", data := .seq vs.toArray }) (hr : Room k callerA)
    (F : ∀ base : Heap, K.In base → base.Ns mainGlobals mg → Sys base → FnG P w K mg base CX0 k fa fd [x] sp)
    (hbind : ∀ (s : Shared) (u : Value), BindsTo s fd ⟨[u], []⟩ [(x, u)])
    (hsp : sp [.ref a] H (fun v _ => v = .bl true) fun _ _ _ => False) (hO : Only H) (ok : HOk P w H s₁.heap)
    (only : ∀ b, H b ≠ none → b = a) (hK : H a ≠ none → K.lookup a = none) :
    codeAny (model P w) callerA (.call (.ref fa) ⟨[.ref a], []⟩)
      (fun r s' => r = .ok (.ret (.bool true)) ∧ OldK s₁.heap s'.heap ∧ s'.os = s₁.os ∧ AllBare s'.gens) s₁ := by
  have nd : ∀ {b : Addr} {o : Obj} {es : Array DictEntry} {ep : Nat}, s₁.heap.get? b = some o → o.data = .dict es ep → H b = none := by
    intro b o es ep e d
    cases q : H b with
    | none => rfl
    | some u =>
      have z := only b (by rw [q]; exact fun z => nomatch z)
      rw [z, ha] at e
      cases e
      cases (show Data.seq vs.toArray _ = Data.dict es ep from d)
  have nsB : ∀ {b : Addr} {m : Str → Option Value}, s₁.heap.Ns b m → (hidT s₁.heap H).Ns b m := by
    rintro b m ⟨o, es, ep, e, d, r⟩
    exact ⟨o, es, ep, hidT_get e (nd e d), d, r⟩
  have kB : K.In (hidT s₁.heap H) := by
    intro b o e
    refine hidT_get (KX b o e) ?_
    cases q : H b with
    | none => rfl
    | some u =>
      have z := only b (by rw [q]; exact fun z => nomatch z)
      rw [z] at q e
      rw [hK (by rw [q]; exact fun z => nomatch z)] at e
      cases e
  have sB : Sys (hidT s₁.heap H) := by
    obtain ⟨o, es, n, e, d⟩ := sy
    exact ⟨o, es, n, hidT_get e (nd e d), d⟩
  have md : Mod K mg (hidT s₁.heap H) := ⟨kB, nsB hns, ⟨mb, nsB hb, hbb⟩, let ⟨mc, h1, h2⟩ := lim; ⟨mc, nsB h1, h2⟩⟩
  have e0 : Env0 P w K mg (hidT s₁.heap H) callerA [] s₁ H :=
    ⟨rfl, md, fun b o e => of_hidT e, Nat.le_of_eq (hidT_size _ _), trivial, fun b z => absurd z List.not_mem_nil, ok, .of_eq hg⟩
  refine codeAny_mono ((F _ kB (nsB hns) sB).go callerA [] s₁ H ⟨[.ref a], []⟩ [.ref a] [.ref a] _ _ hr rfl e0 (hbind s₁ (.ref a)) (.cons rfl .nil) hsp) ?_
  intro r s' h
  cases r with
  | error e => exact h.elim
  | ok fl =>
    cases fl with
    | next => exact h.elim
    | brk => exact h.elim
    | cont => exact h.elim
    | ret u =>
      obtain ⟨v, H', os, bare, un, ok', r', q⟩ := h
      have q' : v = .bl true := q
      subst q'
      obtain rfl : u = Value.bool true := r'
      refine ⟨rfl, OldK.of_keep fun b o e => ?_, os, bare⟩
      rcases hO b with z | ⟨ob, ys, z⟩
      · exact un.keep b o e z List.not_mem_nil List.not_mem_nil
      · obtain ⟨e1, _⟩ := ok b _ z
        obtain ⟨e2, _⟩ := ok' b _ (un.frzs b ob _ z)
        rw [e] at e1
        cases e1
        exact e2

theorem law_end {P : Program} {w : World} {K : PySem.W.Frag} {mg mb : Str → Option Value} {k : Nat} {fa a : Addr} {fd : FuncData} {x : Str} {sp : Sp}
    {s₁ : Shared} {vs : List Value} {ns : List Int} (KX : K.In s₁.heap) (hns : s₁.heap.Ns mainGlobals mg) (hb : s₁.heap.Ns builtinsNs mb)
    (hbb : ∀ x : Str, x ≠ "__name__" → mb x = bootBuiltins x) (lim : s₁.heap.NoLimit) (sy : Sys s₁.heap) (hg : s₁.gens = #[])
    (ha : s₁.heap.get? a = some { cls := .type "list", data := .seq vs.toArray }) (hi : IntsAre vs ns) (hl : ns.length ≤ sizeLine) (hr : Room k callerA)
    (F : ∀ base : Heap, K.In base → base.Ns mainGlobals mg → Sys base → FnG P w K mg base CX0 k fa fd [x] sp)
    (hbind : ∀ (s : Shared) (u : Value), BindsTo s fd ⟨[u], []⟩ [(x, u)])
    (hsp : ∀ H : Hp, SqL K H a (ns.map V.int) → sp [.ref a] H (fun v _ => v = .bl true) fun _ _ _ => False) :
    codeAny (model P w) callerA (.call (.ref fa) ⟨[.ref a], []⟩)
      (fun r s' => r = .ok (.ret (.bool true)) ∧ OldK s₁.heap s'.heap ∧ s'.os = s₁.os ∧ AllBare s'.gens) s₁ := by
  have rv := vals_ints hi
  have lv := hi.length
  have hl' : (ns.map V.int).length ≤ sizeLine := by rw [List.length_map]; exact hl
  cases hk : K.lookup a with
  | some o =>
    have e := KX a o hk
    rw [ha] at e
    cases e
    have sq : SqL K (fun _ => none) a (ns.map V.int) := Or.inr ⟨_, vs.toArray, _, hk, rfl, rfl, rfl, by rw [List.size_toArray, lv]; exact hl, by simpa using rv⟩
    have no : ∀ (b : Addr) (u : HO), ¬ ((fun _ : Addr => (none : Option HO)) b = some u) := fun b u z => nomatch z
    exact call_end (xs := ns.map V.int) (H := fun _ => none) KX hns hb hbb lim sy hg ha hr F hbind (hsp _ sq) (fun _ => Or.inl rfl) (fun b u z => absurd z (no b u)) (fun b z => absurd rfl z) fun z => absurd rfl z
  | none =>
    have at_a : (fun b : Addr => if b = a then some (HO.frz { cls := .type "list", data := .seq vs.toArray } (.lst (ns.map V.int))) else none) a = some (HO.frz { cls := .type "list", data := .seq vs.toArray } (.lst (ns.map V.int))) := if_pos rfl
    have off : ∀ b : Addr, b ≠ a → (fun b : Addr => if b = a then some (HO.frz { cls := .type "list", data := .seq vs.toArray } (.lst (ns.map V.int))) else none) b = none := fun b h => if_neg h
    generalize (fun b : Addr => if b = a then some (HO.frz { cls := .type "list", data := .seq vs.toArray } (.lst (ns.map V.int))) else none) = H at at_a off
    have sq : SqL K H a (ns.map V.int) := Or.inl (Or.inr ⟨_, at_a⟩)
    refine call_end (xs := ns.map V.int) (H := H) KX hns hb hbb lim sy hg ha hr F hbind (hsp _ sq) (fun b => ?_) (fun b u z => ?_) (fun b z => ?_) fun _ => hk
    · by_cases h : b = a
      · exact Or.inr ⟨_, _, by rw [h]; exact at_a⟩
      · exact Or.inl (off b h)
    · by_cases h : b = a
      · subst h
        rw [at_a] at z
        cases z
        exact ⟨ha, hl', vs, _, rv, ha⟩
      · rw [off b h] at z
        cases z
    · by_cases h : b = a
      · exact h
      · exact absurd (off b h) z

/-- the goal that k_head leaves, from the promise of law's def -/
theorem walk_g {l : PySem.W.OpenLaw} {n k : Nat} {q : Program} {loose : List Str} {XP : (Str → Option Value) → Heap → Prop} {YP : World → Heap → Prop}
    {d : DefRec} {K : Params → PySem.W.Frag} {sp : World → Sp} {x : Str} (hn : l.most = some n) (hn2 : n ≤ sizeLine) (hdf : d.params.defaults = [])
    (hr : Room k callerA) (him : importsNone q = true) (hY : ∀ (w : World) (h : Heap), YP w h → (K w.params).In h)
    (F : ∀ (w : World) (mg : Str → Option Value) (fa : Addr) (h : Heap), (K w.params).In h → h.Ns mainGlobals mg → mg d.name = some (.ref fa) →
      ∃ fd : FuncData, (∀ (s : Shared) (u : Value), BindsTo s fd ⟨[u], []⟩ [(x, u)]) ∧
        ∀ base : Heap, (K w.params).In base → base.Ns mainGlobals mg → Sys base → FnG l.prog w (K w.params) mg base CX0 k fa fd [x] (sp w))
    (hsp : ∀ (w : World) (H : Hp) (a : Addr) (ns : List Int), ns.length ≤ n → SqL (K w.params) H a (ns.map V.int) →
      sp w [.ref a] H (fun v _ => v = .bl true) fun _ _ _ => False) :
    PySem.W.WalkO q loose XP YP l.row.toRowW d [] (fun f vs => PySem.call f vs) := by
  refine Att.attach_call hn hdf ?_
  intro w s₀ s₁ mg mb fa o pm cd doc a vs ns G Y ho hd hcd hmg hobj hints hlen hg
  have KX := hY w _ Y
  obtain ⟨fd, hb, hF⟩ := F w mg fa _ KX G.T.g hmg
  exact law_end KX G.T.g G.T.b G.T.builtins G.T.nolimit (sys_of (G.T.seer him)) hg hobj hints (Nat.le_trans hlen hn2) hr hF hb (fun H hS => hsp w H a ns hlen hS)
end Vx
namespace Vx
open PySem PySem.Spec PyProof.Rows L2

/-- the def x of the text stands behind the top -/
def FunIn (K : PySem.W.Frag) (mg : Str → Option Value) (x : Str) (st : Stmt) : Prop := ∃ f fd, Fun K x x st f fd ∧ mg x = some (.ref f)
theorem funIn {K : PySem.W.Frag} {h : Heap} {mg : Str → Option Value} {x : Str} {st : Stmt} (X : K.In h) (G : h.Ns mainGlobals mg) {f : Addr} {oc kV dc pm cd ct : Value} {od an : Option Addr} {sl : Array (Option Value)}
    (a : PySem.W.nsIn K mainGlobals x = some (some (.ref f)))
    (l : K.lookup f = some ⟨oc, od, .func (PySem.W.fnOf x x (defArgs st) (defBody st) (defScope st) .none kV dc pm an cd ct), sl⟩)
    (c : PySem.W.codeIn K cd x = true) (k : PySem.W.keepIn K (.ref f) = true) : FunIn K mg x st :=
  ⟨f, _, fun_mk (st := st) l c k, PySem.W.mg_of X G a⟩

/-- a def that keeps its promise, by its name -/
structure Df (P : Program) (w : World) (K : PySem.W.Frag) (mg : Str → Option Value) (base : Heap) (x : Str) (k : Nat) (ps : List Str) (sp : Sp) : Prop where
  ex : ∃ f fd, FnOk P w K mg base CX0 k f fd ps sp ∧ mg x = some (.ref f) ∧ PySem.W.keepIn K (.ref f) = true ∧ Binds K fd ps []
structure Dg (P : Program) (w : World) (K : PySem.W.Frag) (mg : Str → Option Value) (base : Heap) (x : Str) (k : Nat) (ps : List Str) (sp : Sp) : Prop where
  ex : ∃ f fd, FnG P w K mg base CX0 k f fd ps sp ∧ mg x = some (.ref f) ∧ PySem.W.keepIn K (.ref f) = true ∧ Binds K fd ps []
section
variable {X : Cx} {k : Nat} {ps : List Str} {sp : Sp} {x : Str} {p pos : Pos} {e : Expr} {es : List Expr} {t : TA}
theorem pe_d (D : Df X.prog X.w X.K X.mg X.base x k ps sp) (hr : Room k X.A) (hg : Gl X x) (ha : PA X (e :: es) t)
    (hdb : (x == ("__debug__" : Str)) = false := by decide)
    (he : starEach (e :: es) X.env = (false, eval e X.env) :: starEach es X.env := by rfl)
    (hpl : (backTo pos (starEach es X.env)).any (·.1) = false := by rfl) :
    PE X (.Call (.Name x p) (e :: es) [] pos) (tCall sp [] E0 t) := by
  obtain ⟨f, fd, F, hm, hk, hb⟩ := D.ex
  exact pe_call F hr hg hm hk hb .nil pass0 ha hdb he hpl
theorem pe_d0 (D : Df X.prog X.w X.K X.mg X.base x k ps sp) (hr : Room k X.A) (hg : Gl X x)
    (hdb : (x == ("__debug__" : Str)) = false := by decide) : PE X (.Call (.Name x p) [] [] pos) (tCall sp [] E0 tNil) := by
  obtain ⟨f, fd, F, hm, hk, hb⟩ := D.ex
  exact pe_call0 F hr hg hm hk hb .nil pass0 hdb
theorem pe_dg (D : Dg X.prog X.w X.K X.mg X.base x k ps sp) (hr : Room k X.A) (ng : Ng X.A) (hg : Gl X x) (ha : PA X (e :: es) t)
    (hdb : (x == ("__debug__" : Str)) = false := by decide)
    (he : starEach (e :: es) X.env = (false, eval e X.env) :: starEach es X.env := by rfl)
    (hpl : (backTo pos (starEach es X.env)).any (·.1) = false := by rfl) :
    PE X (.Call (.Name x p) (e :: es) [] pos) (tCall sp [] E0 t) := by
  obtain ⟨f, fd, F, hm, hk, hb⟩ := D.ex
  exact pe_g F hr ng hg hm hk hb .nil pass0 ha hdb he hpl
end
theorem hu64 {A : Around} {k : Nat} (hr : Room k A) : A.units + 64 < cLine := hr.units

/-- the built-in names that the text leaves as they are -/
structure Bls (mg : Str → Option Value) : Prop where
  n_int : mg "int" = none
  n_len : mg "len" = none
  n_abs : mg "abs" = none
  n_divmod : mg "divmod" = none
  n_range : mg "range" = none
  n_min : mg "min" = none
  n_max : mg "max" = none
  n_all : mg "all" = none
  n_repr : mg "repr" = none
  n_isinstance : mg "isinstance" = none

/-! ### the reel -/
/-- a reel stands at a -/
def RlAt (a : Addr) (H : Hp) : Prop := ∃ x y z : Int, H a = some (.lst [.int x, .int y, .int z])
/-- all but a stays -/
def But (a : Addr) (H H' : Hp) : Prop := ∀ b o, H b = some o → b ≠ a → H' b = some o
theorem but_trans {a : Addr} {H H1 H2 : Hp} (p : But a H H1) (q : But a H1 H2) : But a H H2 := fun b o e n => q b o (p b o e n) n
theorem but_refl (a : Addr) (H : Hp) : But a H H := fun _ _ e _ => e
theorem same_but {H H' : Hp} (a : Addr) (e : Same H H') : But a H H' := fun b o h _ => e b o h
theorem but_upd {a : Addr} {H : Hp} {o : HO} : But a H (upd H a o) := fun b o e n => by rw [upd_ne n]; exact e
theorem but_new {a p : Addr} {H : Hp} {o : HO} (h : H p = none) : But a H (upd H p o) := fun b u e n => by
  rw [upd_ne (ne_of_none e h)]; exact e
theorem same_new {p : Addr} {H : Hp} {o : HO} (h : H p = none) : Same H (upd H p o) := fun b u e => by
  rw [upd_ne (ne_of_none e h)]; exact e

/-- _law_pull: a number from 0 on and below the second argument; the reel has gone on -/
def spPull : Sp := fun vs H Q _ => ∃ (a : Addr) (m : Int), vs = [.ref a, .int m] ∧ RlAt a H ∧ 0 < m ∧ m < 1000000 ∧
  ∀ (d : Int) (H' : Hp), 0 ≤ d → d < m → RlAt a H' → But a H H' → Q (.int d) H'

theorem divp_small {i j : Int} (h0 : 0 < j) (h1 : j < 1000000) : CDivP i j := ⟨h0, PyProof.noPylong_small (by omega)⟩
end Vx
namespace PySem
namespace VxE
open PySem.W PySem.Calls PyProof.Rows PySem.HandSPX
section
variable {M : Model} {A : Around} {E : Value → Shared → Prop} {h : Heap} {g : Array GenState} {d : Drawn} {t : Nat} {os : OsState}
  {nm q : Str} {C N : Addr} {bs bm bmB : List Value} {hd : Bool} {sn : List Str} {sub : List Value} {ab : Bool} {col : Option Bool}
  {dd : Option Addr} {k0 k1 k2 k3 k5 : Option Value} {B ni ii : String} {n : Str} {v : Value}
theorem new_check (F : ExcBaseFacts B ni ii bmB) (hT : ∀ X : String, bm.contains (.type X) = bmB.contains (.type X)) {Q : Unit → Shared → Prop}
    (hC : h.get? C = some (excClassObj nm q C N bs bm hd sn sub ab col dd k0 k1 k2 k3 k5 ni)) (hq : Q () ⟨h, g, d, t, os⟩) :
    wpAny M A (checkBuiltinCall ni ⟨[.ref C], [(n, v)]⟩) Q E ⟨h, g, d, t, os⟩ := by
  have c1 : (Value.ref C :: bm).contains (.type B) = true := by
    rw [List.contains_cons, hT, F.hasB]
    exact Bool.or_true _
  have c2 := F.noStar
  simp only [checkBuiltinCall, F.newKind, F.newSplit, F.newRow]
  repeat (first | refine wpAny_loadPart_at hC ?_ | (refine wpAny_isSubtype_exc hC ?_; rw [c1]) | refine wpAny_staticBase_exc hC ?_ | refine wpAny_madeBy_exc hC ?_ | simp only [bne_self_eq_false, Bool.false_eq_true, if_false] | wp_step)
  exact hq
end
section
variable {prog : Program} {w : World} {A : Around} {E : Value → Shared → Prop} {R : Result → Shared → Prop} {h : Heap} {g : Array GenState} {d : Drawn} {t : Nat} {os : OsState}
  {nm q : Str} {C N : Addr} {bs bm bmB : List Value} {hd : Bool} {sn : List Str} {sub : List Value} {ab : Bool} {col : Option Bool}
  {dd : Option Addr} {k0 k1 k2 k3 k5 : Option Value} {B ni ii : String} {n : Str} {v : Value}
theorem new_kw (F : ExcBaseFacts B ni ii bmB) (hT : ∀ X : String, bm.contains (.type X) = bmB.contains (.type X))
    (hC : h.get? C = some (excClassObj nm q C N bs bm hd sn sub ab col dd k0 k1 k2 k3 k5 ni))
    (hq : R (.ok (.ret (.ref (h.objs.size + 1)))) ⟨(h.push (W.kdv_tup [])).push (excO C h.objs.size), g, d, t, os⟩) :
    codeAny (model prog w) A (.builtin ni ⟨[.ref C], [(n, v)]⟩) R ⟨h, g, d, t, os⟩ := by
  have hends := F.ends
  have c1 : (Value.ref C :: bm).contains (.type B) = true := by
    rw [List.contains_cons, hT, F.hasB]
    exact Bool.or_true _
  have c2 : (Value.ref C :: bm).contains (.type "AttributeError") = false := by
    rw [List.contains_cons, hT, F.noAttr]
    rfl
  have c3 : (Value.ref C :: bm).contains (.type "NameError") = false := by
    rw [List.contains_cons, hT, F.noName]
    rfl
  have hz : ([] : List Value).length ≤ sizeLine := Nat.zero_le _
  refine codeAny_builtinAt F.entry ?_
  unfold Builtin.«BaseException.__new__»
  refine wpAt_bind ?_
  show wpAt _ _ _ (stack >>= _) _ _ _
  refine wpAt_bind (wpAt_stack fun p below => wpAt_of_wpAny ?_)
  wp_walk
  refine wpAt_of_wpAny ?_
  rw [F.owner]
  repeat (first | with_reducible refine wpAny_madeHere_exc F.canon hC ?_ | with_reducible refine wpAny_loadPart_at hC ?_ | (with_reducible refine wpAny_isSubtype_exc hC ?_; first | rw [c1] | rw [c2] | rw [c3]) | wp_step)
  show R _ _
  rw [Heap.size_push]
  exact hq
theorem type_kw (F : ExcBaseFacts B ni ii bmB) (hT : ∀ X : String, bm.contains (.type X) = bmB.contains (.type X)) {fI : Addr} {Q : Fin → Shared → Prop}
    (hC : h.get? C = some (excClassObj nm q C N bs bm hd sn sub ab col dd k0 k1 k2 k3 k5 ni))
    (hi : W.Looks (model prog w) h (typeLookup (.ref C) "__init__") (some (.ref fI)))
    (hb : ∀ self, W.Looks (model prog w) h (bindSpecial (.ref fI) self) (.ref fI, [self]))
    (hq : codeAny (model prog w) A (.call (.ref fI) ⟨[.ref (h.objs.size + 1)], [(n, v)]⟩)
      (fun r s' => match r with
        | .ok (.ret v) => v = .none ∧ Q (.done (.ret (.ref (h.objs.size + 1)))) s'
        | .ok _ => False
        | .error e => E e s') ⟨(h.push (W.kdv_tup [])).push (excO C h.objs.size), g, d, t, os⟩) :
    wpAny (model prog w) A (Builtin.«type.__call__» ⟨[.ref C], [(n, v)]⟩) Q E ⟨h, g, d, t, os⟩ := by
  repeat (first | with_reducible refine wpAny_loadPart_at hC ?_ | with_reducible refine wpAny_madeBy_exc hC ?_ | wp_step)
  refine codeAny_call_builtin_code (Code.quiet_builtin _ F.quiet) (new_check F hT hC ?_)
  refine new_kw F hT hC ?_
  show wpAny _ _ _ _ _ _
  have k : ∀ b o, h.get? b = some o → ((h.push (W.kdv_tup [])).push (excO C h.objs.size)).get? b = some o :=
    fun b o e => Heap.get?_push_of_some _ (Heap.get?_push_of_some _ e)
  have hC1 := k _ _ hC
  have hg : ((h.push (W.kdv_tup [])).push (excO C h.objs.size)).get? (h.objs.size + 1) = some (excO C h.objs.size) := by heap_get
  have hcC : (Value.ref C :: bm).contains (.ref C) = true := by simp
  have i1 := hi.keeps k
  have b1 := (hb (.ref (h.objs.size + 1))).keeps k
  unfold isInstance
  repeat (first | with_reducible refine wpAny_loadPart_at hg ?_ | (with_reducible refine wpAny_isSubtype_exc hC1 ?_; rw [hcC]) | wp_step)
  show wpAny _ _ (typeLookup (.ref C) _) _ _ _
  refine i1.at ?_
  refine wpAny_holding (wpAny_bind (b1.at ?_))
  refine wpAny_bind (wpAny_call (codeAny_mono hq fun r s' z => ?_))
  rcases r with e | (v | _ | _ | _) <;> first | exact z | exact z.elim | skip
  obtain ⟨rfl, z⟩ := z
  first
    | exact wpAny_pure (wpAny_pure z)
    | (wp_walk; exact z)
theorem call_kw (F : ExcBaseFacts B ni ii bmB) (hT : ∀ X : String, bm.contains (.type X) = bmB.contains (.type X)) {fI : Addr}
    (hC : h.get? C = some (excClassObj nm q C N bs bm hd sn sub ab col dd k0 k1 k2 k3 k5 ni))
    (hi : W.Looks (model prog w) h (typeLookup (.ref C) "__init__") (some (.ref fI)))
    (hb : ∀ self, W.Looks (model prog w) h (bindSpecial (.ref fI) self) (.ref fI, [self]))
    (hq : codeAny (model prog w) (A.under (.builtin "type.__call__" ⟨[.ref C], [(n, v)]⟩)) (.call (.ref fI) ⟨[.ref (h.objs.size + 1)], [(n, v)]⟩)
      (W.InitBack (h.objs.size + 1) R) ⟨(h.push (W.kdv_tup [])).push (excO C h.objs.size), g, d, t, os⟩) :
    codeAny (model prog w) A (.call (.ref C) ⟨[], [(n, v)]⟩) R ⟨h, g, d, t, os⟩ := by
  have f1 := tc_lookup
  have f2 := tc_bind (.ref C)
  have ty : (⟨h, g, d, t, os⟩ : Shared).TypeIs (.ref C) "type" := ⟨_, hC, rfl⟩
  refine codeAny_of_tree ?_
  show wpAny _ _ (callAny (.ref C) _) _ _ _
  repeat (any_goals (first | assumption | with_reducible refine wpAny_loadPart_at hC ?_ | wp_step))
  refine ⟨rfl, ?_⟩
  refine codeAny_call_builtin_at (Code.quiet_builtin _ (by decide +kernel)) entry_typeCall (wpAny_check_type_call_sub hC (type_kw F hT hC hi hb ?_))
  refine codeAny_mono hq fun r s' z => ?_
  rcases r with e | (v | _ | _ | _) <;> exact z
end
end VxE
end PySem
namespace PySem
namespace VxE
open PySem.W PySem.Calls PyProof.Rows PySem.Spec
section
variable {prog : Program} {w : World} {A : Around} {E : Value → Shared → Prop} {s : Shared} {K : Frag} {x D : Addr} {ox : Obj} {od : Option Obj}
theorem find_class {C : Addr} {name : Str} {a g : Value} (hc : (clsIn K C).isSome = true) (ha : findIn K (.ref C) name = some (some a))
    (hg : specialIn K a "__get__" = some (some g)) (ht : takesIn K a = some true) : findObj K C od name = some (.bind g a) := by
  obtain ⟨cd, hc⟩ := Option.isSome_iff_exists.mp hc
  unfold findObj
  rw [hc, Option.bind_some, ha, Option.bind_some]
  simp [hg, ht]
theorem get_cls {Q : Option Value → Shared → Prop} (h1 : findIn K (.ref D) "__getattribute__" = some (some (.builtin "BaseException.__getattribute__")))
    (h2 : findIn K (.ref D) "__getattr__" = some none) (h3 : subIn K (.ref D) (.type "BaseException") = some true) (h4 : hasDictIn K D = true)
    (h5 : findIn K (.ref D) "__class__" = some (some (.builtin "object.__class__")))
    (h6 : specialIn K (.builtin "object.__class__") "__get__" = some (some (.builtin "getset_descriptor.__get__")))
    (h7 : takesIn K (.builtin "object.__class__") = some true) (h8 : mroIn K D (.type "object") = some true) (X : K.In s.heap)
    (I : W.InstAt s.heap x ox D od) (h : Q (some (.ref D)) { s with toks := s.toks + 1 }) :
    wpAny (model prog w) A (getAttr? (.ref x) "__class__") Q E s := by
  have hf : findObj K D od "__class__" = some (.bind (.builtin "getset_descriptor.__get__") (.builtin "object.__class__")) :=
    find_class (by obtain ⟨cd, hc, _⟩ := any_some h4; rw [hc]; rfl) h5 h6 h7
  obtain ⟨hp, g, d, t, os⟩ := s
  have L0 := I.type (M := model prog w)
  have L1 := looks_findIn (M := model prog w) X h1
  have L2 := looks_findIn (M := model prog w) X h2
  have L3 := looks_find (M := model prog w) X I hf
  have sub : Looks (model prog w) hp (isInstance (.ref x) (.type "BaseException")) true := L0.andThen (looks_subIn X h3)
  have e0 : (false && onTheHeap (Value.builtin "BaseException.__getattribute__")) = false := rfl
  have e2 : (Value.builtin "BaseException.__getattribute__" == Value.builtin "object.__getattribute__") = false := by decide +kernel
  have e1 : (onTheHeap (Value.ref D) && Value.builtin "BaseException.__getattribute__" == Value.builtin "object.__getattribute__") = false := by
    rw [e2]
    rfl
  unfold getAttr? getAttrBy? getAttrBy
  refine wpAny_bind (wpAny_mkText (wpAny_bind (wpAny_attempt (wpAny_holding (wpAny_bind (L0.at (wpAny_bind (L1.at ?_))))))))
  show wpAny _ _ (if (onTheHeap (Value.ref D) && Value.builtin "BaseException.__getattribute__" == Value.builtin "object.__getattribute__") = true then _ else _) _ _ _
  rw [e1, if_neg Bool.false_ne_true]
  unfold getAttrByItsOwn hookBefore
  refine wpAny_bind ?_
  rw [if_pos (show onTheHeap (Value.ref D) = true from rfl)]
  refine L2.at (wpAny_bind (wpAny_attempt (wpAny_holding ?_)))
  unfold callGetattribute
  rw [e0, if_neg Bool.false_ne_true]
  unfold boundAndCalled
  rw [PySem.F.excAttr_ValueError.ga.bind (.ref x)]
  refine wpAny_bind (wpAny_pure ?_)
  refine wpAny_call (codeAny_call_builtin PySem.F.excAttr_ValueError.ga.plain PySem.F.entry_bexc_ga ?_)
  refine @check_slot (model prog w) _ _ ⟨hp, g, d, t + 1, os⟩ "BaseException.__getattribute__" "BaseException" "__getattribute__" (.ref x)
    [.str "__class__" t] [] _ (by decide +kernel) (by decide +kernel) sub (PySem.F.args_bexc_ga (.ref x) (.str "__class__" t)) ?_
  unfold Builtin.«object.__getattribute__»
  refine wpAny_bind (wpAny_of_eq (a := ((Value.ref x : Value), [Value.str "__class__" t])) (by first | rfl | (simp only [slotArgs]; rfl)) ?_)
  refine wpAny_bind (wpAny_pure (wpAny_bind (L0.at (wpAny_bind (L3.at ?_)))))
  refine wpAny_bind (wpAny_holding (wpAny_call (class_get (s := ⟨hp, g, d, t + 1, os⟩) (ox := ox) (od := od) X I h8 (wpAny_pure ?_))))
  show wpAny _ _ (handedOut (.ref D)) _ _ _
  rw [handedOut_of (v := .ref D) rfl]
  first
    | exact wpAny_pure (wpAny_pure h)
    | exact wpAny_pure h
    | exact wpAny_pure (wpAny_bind (wpAny_pure (wpAny_pure h)))

theorem kit_exc (h1 : findIn K (.ref D) "__getattribute__" = some (some (.builtin "BaseException.__getattribute__")))
    (h2 : findIn K (.ref D) "__getattr__" = some none) (h3 : subIn K (.ref D) (.type "BaseException") = some true) (h4 : hasDictIn K D = true)
    (h5 : findIn K (.ref D) "__class__" = some (some (.builtin "object.__class__")))
    (h6 : specialIn K (.builtin "object.__class__") "__get__" = some (some (.builtin "getset_descriptor.__get__")))
    (h7 : takesIn K (.builtin "object.__class__") = some true) (h8 : mroIn K D (.type "object") = some true) :
    KitX K (.ref x) (.ref D) (fun h => W.InstAt h x ox D od) := by
  obtain ⟨cd, hc, _⟩ := any_some h4
  unfold clsIn at hc
  split at hc
  · rename_i c1 d1 cd1 sl1 ho
    refine ⟨fun _ _ _ I => I.type, fun _ _ X _ A' Q' E' s' k q => ?_, fun h tp dd its n sl X htp => Bool.eq_false_iff.mpr fun q => ?_, fun X I k => get_cls h1 h2 h3 h4 h5 h6 h7 h8 X I k⟩
    · unfold isType loadHead
      exact wpAny_bind (wpAny_loadPart (k _ _ (X _ _ ho)) (wpAny_pure q))
    · have e : D = tp := Value.ref.inj (beq_iff_eq.mp q)
      subst e
      have z := (X _ _ ho).symm.trans htp
      cases z
  · cases hc
end
end VxE
end PySem

namespace Vx
open PySem PySem.Spec PyProof.Rows L2

/-- a class of the text over ValueError, HE its base of the text (none: ValueError itself) -/
structure Xc (K : PySem.W.Frag) (C : Addr) (up : List Value) : Prop where
  cls : ∃ nm q N bs sn sub ab col dd k0 k1 k2 k3 k5, K.lookup C = some (excClassObj nm q C N bs up true sn sub ab col dd k0 k1 k2 k3 k5 "ValueError.__new__")
  sa : PySem.W.findIn K (.ref C) "__setattr__" = some (some (.builtin "object.__setattr__"))
  ga : PySem.W.findIn K (.ref C) "__getattribute__" = some (some (.builtin "BaseException.__getattribute__"))
  gg : PySem.W.findIn K (.ref C) "__getattr__" = some none
  ca : PySem.W.findIn K (.ref C) "__class__" = some (some (.builtin "object.__class__"))
  kC : PySem.W.keepIn K (.ref C) = true
/-- the way up from ValueError -/
def veUp : List Value := [.type "ValueError", .type "Exception", .type "BaseException", .type "object"]
section
variable {K : PySem.W.Frag} {C : Addr} {up : List Value}
theorem Xc.clsIn (T : Xc K C up) : ∃ nm q N bs sn sub ab col, PySem.W.clsIn K C = some { name := nm, bases := bs, mro := .ref C :: up, ns := N, qualname := q, hasDict := true, slotNames := sn, subclasses := sub, abstract := ab, collection := col, hasDel := false } := by
  obtain ⟨nm, q, N, bs, sn, sub, ab, col, dd, k0, k1, k2, k3, k5, hC⟩ := T.cls
  refine ⟨nm, q, N, bs, sn, sub, ab, col, ?_⟩
  unfold PySem.W.clsIn
  rw [hC]
theorem Xc.mro (T : Xc K C up) (b : Value) : PySem.W.mroIn K C b = some ((Value.ref C :: up).contains b) := by
  obtain ⟨nm, q, N, bs, sn, sub, ab, col, h⟩ := T.clsIn
  unfold PySem.W.mroIn
  rw [h]
  rfl
theorem Xc.sub (T : Xc K C up) (b : Value) : PySem.W.subIn K (.ref C) b = some ((Value.ref C :: up).contains b) := T.mro b
theorem Xc.ty (T : Xc K C up) : PySem.W.typeIn K (.ref C) = some (.type "type") := by
  obtain ⟨nm, q, N, bs, sn, sub, ab, col, dd, k0, k1, k2, k3, k5, hC⟩ := T.cls
  show (K.lookup C).map (·.cls) = _
  rw [hC]
  rfl
theorem Xc.hd (T : Xc K C up) : PySem.W.hasDictIn K C = true := by
  obtain ⟨nm, q, N, bs, sn, sub, ab, col, h⟩ := T.clsIn
  unfold PySem.W.hasDictIn
  rw [h]
  rfl
theorem Xc.is (T : Xc K C up) : (PySem.W.clsIn K C).isSome = true := by
  obtain ⟨nm, q, N, bs, sn, sub, ab, col, h⟩ := T.clsIn
  rw [h]
  rfl
theorem Xc.exC (T : Xc K C up) (h : up.contains (.type "BaseException") = true) : PySem.W.subIn K (.ref C) (.type "BaseException") = some true := by
  rw [T.sub, List.contains_cons, h, Bool.or_true]
theorem Xc.oex (T : Xc K C up) (h : PySem.HandSPX.refsVE up = true) (hb : up.contains (.type "BaseException") = true) : OexC K C := by
  obtain ⟨nm, q, N, bs, sn, sub, ab, col, dd, k0, k1, k2, k3, k5, hC⟩ := T.cls
  exact ⟨⟨nm, q, N, bs, up, sn, sub, ab, col, dd, k0, k1, k2, k3, k5, hC, h⟩, T.sa, T.exC hb, T.ty, T.kC⟩
/-- isinstance by the classes' ways up -/
theorem Xc.kit (T : Xc K C up) {D : Addr} {up' : List Value} (T' : Xc K D up') : PySem.W.kitOne K (.ref C) (.ref D) = some ((Value.ref C :: up).contains (.ref D)) := by
  unfold PySem.W.kitOne
  by_cases h : (Value.ref C == Value.ref D) = true
  · rw [if_pos h, List.contains_cons]
    have e : C = D := Value.ref.inj (beq_iff_eq.mp h)
    subst e
    simp
  · rw [if_neg h]
    show (if ((PySem.W.clsIn K D).isSome && PySem.W.typeIn K (.ref D) == some (.type "type")) = true then PySem.W.subIn K (.ref C) (.ref D) else none) = _
    rw [T'.is, T'.ty, T.sub]
    rfl
theorem Xc.kitT (T : Xc K C up) {n : String} (h : PySem.W.kitMeta n = true) : PySem.W.kitOne K (.ref C) (.type n) = some (up.contains (.type n)) := by
  unfold PySem.W.kitOne
  rw [if_neg (show ¬ (Value.ref C == Value.type n) = true from fun z => by cases beq_iff_eq.mp z)]
  show (if PySem.W.kitMeta n = true then PySem.W.subIn K (.ref C) (.type n) else none) = _
  rw [if_pos h, T.sub, List.contains_cons]
  rfl
end

/-- an exception of the class at C that keeps v under f -/
def ExA (H : Hp) (e C : Addr) (f : Str) (v : V) : Prop := ∃ d, H e = some (exo e C (some d)) ∧ H d = some (exd d [(f, v)])
/-- an exception of the class at C that keeps nothing -/
def Ex0 (H : Hp) (e C : Addr) : Prop := H e = some (exo e C none)
/-- an exception of the class at C -/
def IsEx (H : Hp) (e C : Addr) : Prop := Ex0 H e C ∨ ∃ d fs, H e = some (exo e C (some d)) ∧ H d = some (exd d fs)
theorem ExA.is {H : Hp} {e C : Addr} {f : Str} {v : V} (h : ExA H e C f v) : IsEx H e C := let ⟨d, h, k⟩ := h; Or.inr ⟨d, _, h, k⟩
theorem Ex0.is {H : Hp} {e C : Addr} (h : Ex0 H e C) : IsEx H e C := Or.inl h
theorem ExA.mono {H H' : Hp} {e C : Addr} {f : Str} {v : V} (s : Same H H') (h : ExA H e C f v) : ExA H' e C f v := let ⟨d, a, b⟩ := h; ⟨d, s _ _ a, s _ _ b⟩
theorem IsEx.mono {H H' : Hp} {e C : Addr} (s : Same H H') (h : IsEx H e C) : IsEx H' e C := by
  rcases h with h | ⟨d, fs, a, b⟩
  · exact Or.inl (s _ _ h)
  · exact Or.inr ⟨d, fs, s _ _ a, s _ _ b⟩

/-- what the built-in __class__ is to the written part -/
structure ClsG (K : PySem.W.Frag) : Prop where
  hn : PySem.W.specialIn K (.builtin "object.__class__") "__get__" = some (some (.builtin "getset_descriptor.__get__"))
  ht : PySem.W.takesIn K (.builtin "object.__class__") = some true

section
variable {X : Cx} {pins : List (Addr × Obj)} {σ : L2.St} {H : Hp} {s : Shared}
theorem Inv.exo_inst {a C : Addr} (I : Inv X pins σ H s) (h : IsEx H a C) : ∃ ox od, PySem.W.InstAt s.heap a ox C od := by
  rcases h with h | ⟨d, fs, h, hd⟩
  · obtain ⟨t1, ho⟩ := exo_at I.hok h
    exact ⟨_, none, ho, rfl, rfl, trivial⟩
  · obtain ⟨t1, ho⟩ := exo_at I.hok h
    obtain ⟨mA, ⟨o, es, ep, hdo, _⟩, _⟩ := exd_at I.hok hd
    exact ⟨_, some o, ho, rfl, rfl, hdo⟩
/-- isinstance(e, c) -/
def rIsX (K : PySem.W.Frag) : List V → Hp → VK → Prop := fun xs H Q => ∃ (a C : Addr) (up : List Value) (c : V) (cv : Value) (b : Bool), xs = [.ref a, c] ∧ IsEx H a C ∧
  Xc K C up ∧ up.contains (.type "BaseException") = true ∧ up.contains (.type "object") = true ∧ (∀ u, RelV c u → u = cv) ∧ PySem.W.kitOne K (.ref C) cv = some b ∧ Q (.bl b) H
theorem call_isX (G : ClsG X.K) : CallR X (.builtin "isinstance") (rIsX X.K) := by
  intro pins s σ H xs us Q I r h
  obtain ⟨a, C, up, c, cv, b, rfl, hx, T, hb, ho, hcv, e, q⟩ := h
  obtain ⟨u, u2, rfl, r1, r2⟩ := vals2 r
  cases r1
  have ec := hcv _ r2
  subst ec
  obtain ⟨ox, od, J⟩ := Inv.exo_inst I hx
  have hm : PySem.W.mroIn X.K C (.type "object") = some true := by rw [T.mro, List.contains_cons, ho, Bool.or_true]
  exact PySem.W.kia_one (PySem.VxE.kit_exc T.ga T.gg (T.exC hb) T.hd T.ca G.hn G.ht hm) I.kIn J e (fun z => nomatch z)
    fun tk => ⟨.bl b, H, I.kept (t' := tk) fun _ _ z => z, rfl, q⟩
/-- isinstance(e, (T, ..)), built-in classes -/
def rIsXT (K : PySem.W.Frag) : List V → Hp → VK → Prop := fun xs H Q => ∃ (a C t : Addr) (up : List Value) (ns : List String) (b : Bool), xs = [.ref a, .ref t] ∧ IsEx H a C ∧
  Xc K C up ∧ up.contains (.type "BaseException") = true ∧ up.contains (.type "object") = true ∧ H t = some (.tup (ns.map V.ty)) ∧ PySem.W.kitAny K (.ref C) (ns.map Value.type) = some b ∧ Q (.bl b) H
theorem vals_ty : ∀ {ns : List String} {us : List Value}, Vals (ns.map V.ty) us → us = ns.map Value.type
  | [], _, .nil => rfl
  | n :: ns, _, .cons r t => by
    have e : _ = Value.type n := r
    rw [List.map_cons, e, vals_ty t]
theorem call_isXT (G : ClsG X.K) : CallR X (.builtin "isinstance") (rIsXT X.K) := by
  intro pins s σ H xs us Q I r h
  obtain ⟨a, C, t, up, ns, b, rfl, hx, T, hb, ho, ht, e, q⟩ := h
  obtain ⟨u, u2, rfl, r1, r2⟩ := vals2 r
  cases r1
  cases r2
  obtain ⟨its, rv, ⟨o, h1, h2, n, h3⟩, _⟩ := I.tuple (SqT.of ht)
  have ei := vals_ty rv
  subst ei
  obtain ⟨oc, odd, od', osl⟩ := o
  dsimp only at h2 h3
  subst h2 h3
  obtain ⟨ox, od, J⟩ := Inv.exo_inst I hx
  have hm : PySem.W.mroIn X.K C (.type "object") = some true := by rw [T.mro, List.contains_cons, ho, Bool.or_true]
  exact PySem.W.kia_tup (PySem.VxE.kit_exc T.ga T.gg (T.exC hb) T.hd T.ca G.hn G.ht hm) I.kIn J h1 e (fun z => nomatch z)
    fun tk => ⟨.bl b, H, I.kept (t' := tk) fun _ _ z => z, rfl, q⟩

/-- e.f of an exception -/
def tXa (K : PySem.W.Frag) (f : Str) (te : TE) : TE := fun σ H Q => te σ H fun x H1 => ∃ (a C : Addr) (up : List Value) (v : V), x = .ref a ∧ Xc K C up ∧ up.contains (.type "BaseException") = true ∧
  PySem.W.findIn K (.ref C) f = some none ∧ ExA H1 a C f v ∧ Q v H1
theorem pe_xa {e : Expr} {te : TE} {pos : Pos} {f : Str} (he : PE X e te) (hb : attributeBase e f X.env (eval e X.env) = eval e X.env := by rfl) : PE X (.Attribute e f pos) (tXa X.K f te) := by
  refine ⟨fun pins s σ H Q I h => ?_⟩
  refine attr_of hb (thn (he.run pins s σ H _ I h) ?_)
  rintro u s1 ⟨x, H1, I1, rx, a, C, up, v, ex, T, hbe, hno, ⟨d, ha, hd⟩, q⟩
  subst ex
  obtain rfl : u = Value.ref a := rx
  obtain ⟨t1, ho⟩ := exo_at I1.hok ha
  obtain ⟨mA, hns, hr⟩ := exd_at I1.hok hd
  obtain ⟨od, hod, hl⟩ := lookIn_ns hns
  obtain ⟨u, hu, ru⟩ := RelO.some_of (v := v) (o := mA f) (by have := hr f; rw [lookup_put, if_pos rfl] at this; exact this)
  have J : PySem.W.InstAt s1.heap a _ C (some od) := ⟨ho, rfl, rfl, hod⟩
  exact HandSPX.exc_get I1.kIn J T.ga T.gg (T.exC hbe) (PySem.W.findObj_own T.hd hno rfl (by rw [hl, hu])) (handed_of ru) ⟨v, H1, I1.tok _, ru, q⟩
end

/-- __init__ of such a class: the new exception, and its dict with the one attribute -/
def spIni (K : PySem.W.Frag) (C : Addr) (f : Str) : Sp := fun vs H Q _ => ∃ (a : Addr) (v : V), vs = [.ref a, v] ∧ H a = some (exo a C none) ∧
  ∀ d, H d = none → d ≠ a → Q .non (upd (upd H d (exd d [(f, v)])) a (exo a C (some d)))
structure Ini (K : PySem.W.Frag) (C : Addr) (f : Str) : Prop where
  ex : ∃ fI fd, PySem.W.findIn K (.ref C) "__init__" = some (some (.ref fI)) ∧ PySem.W.typeIn K (.ref fI) = some (.type "function") ∧
    (∀ P w mg base, FnOk P w K mg base CX0 1 fI fd ["self", f] (spIni K C f)) ∧ Binds K fd ["self", f] [] ∧
    ∀ s e v, BindsTo s fd ⟨[e], [(f, v)]⟩ [("self", e), (f, v)]
  no : PySem.W.findIn K (.ref C) f = some none
theorem ini_ok {P : Program} {w : World} {K : PySem.W.Frag} {mg : Str → Option Value} {base : Heap} {C fI : Addr} {fd : FuncData} {f qn : Str} {st : Stmt} {p1 p2 p3 p4 : Pos}
    (T : OexC K C) (no : PySem.W.findIn K (.ref C) f = some none) (F : Fun K "__init__" qn st fI fd) (S : FnScope ["self", f] ["self", f] (defScope st))
    (hb : defBody st = [.Assign [.Attribute (.Name "self" p1) f p2] (.Name f p3) p4]) (hd : (f == ("__debug__" : Str)) = false) (hc : (f == ("__classdict__" : Str)) = false) :
    FnOk P w K mg base CX0 1 fI fd ["self", f] (spIni K C f) := by
  have vis : ∀ x ∈ (["self", f] : List Str), Vis (defScope st) x := fun x hx => (S.par x hx).elim Or.inl fun z => Or.inr (Or.inl z)
  refine F.ok S (fun vs H Q E h => ?_) (fun cdv A outer s H vs Q E hr h => ?_)
  · obtain ⟨a, v, rfl, _⟩ := h
    rfl
  · obtain ⟨a, v, rfl, ha, q⟩ := h
    rw [hb]
    refine ⟨_, pss_one (ps_ost (pe_var (i := 0) rfl (vis _ (List.Mem.head _))) (pe_var (i := 1) rfl (vis _ (List.Mem.tail _ (List.Mem.head _))) hd hc)), ?_⟩
    refine ⟨_, rfl, _, rfl, a, C, rfl, T, no, Or.inl ⟨ha, fun d hd hn => ?_⟩⟩
    exact q d hd hn

section
variable {X : Cx} {pins : List (Addr × Obj)} {σ : L2.St} {H : Hp} {Q : VK} {C : Addr} {f x : Str} {p pos : Pos} {e : Expr} {te : TE}
/-- C(v), C(f=v): kw tells which -/
theorem run_exc {s : Shared} {v : V} {u : Value} (T : OexC X.K C) (N : Ini X.K C f) (hr : Room 2 X.A) (I : Inv X pins σ H s) (r : RelV v u) (kw : Bool)
    (q : ∀ a H2, Same H H2 → ExA H2 a C f v → Q (.ref a) H2) :
    wpAny (model X.prog X.w) X.A (if kw then call (.ref C) [] [(f, u)] else call (.ref C) [u]) (EP X pins σ Q) X.xe s := by
  obtain ⟨nm, qn, N0, bs, bm, sn, sub, ab, col, dd, k0, k1, k2, k3, k5, hC, hbm⟩ := T.cls
  obtain ⟨fI, fd, iC, tI, F, bP, bK⟩ := N.ex
  obtain ⟨hp, g, dr, tk, os⟩ := s
  have hn : H (hp.objs.size + 1) = none := I.hok.fresh (Nat.le_succ _)
  have hq : spIni X.K C f [.ref (hp.objs.size + 1), v] (upd H (hp.objs.size + 1) (exo (hp.objs.size + 1) C none)) (fun z H2 => z = .non ∧ Q (.ref (hp.objs.size + 1)) H2) E0 := by
    refine ⟨_, v, rfl, upd_same, fun d hd hne => ⟨rfl, ?_⟩⟩
    rw [upd_ne hne] at hd
    refine q _ _ (fun b o z => ?_) ⟨d, upd_same, by rw [upd_ne hne, upd_same]⟩
    rw [upd_ne (ne_of_none z hn), upd_ne (ne_of_none z hd), upd_ne (ne_of_none z hn)]
    exact z
  have mk : ∀ ws : List Value, ∃ h' : Heap, h' = (hp.push (PySem.W.kdv_tup ws)).push (PySem.HandSPX.excO C hp.objs.size) ∧
      Inv X pins σ (upd H (hp.objs.size + 1) (exo (hp.objs.size + 1) C none)) ⟨h', g, dr, tk, os⟩ := fun ws => by
    have kk : ∀ b o, hp.get? b = some o → ((hp.push (PySem.W.kdv_tup ws)).push (PySem.HandSPX.excO C hp.objs.size)).get? b = some o :=
      fun b o z => Heap.get?_push_of_some _ (Heap.get?_push_of_some _ z)
    have hg : ((hp.push (PySem.W.kdv_tup ws)).push (PySem.HandSPX.excO C hp.objs.size)).get? (hp.objs.size + 1) = some (PySem.HandSPX.excO C hp.objs.size) := by heap_get
    exact ⟨_, rfl, I.laid (t' := tk) (a := hp.objs.size + 1) (o := exo (hp.objs.size + 1) C none) kk (Nat.le_succ _) (exo_ok hg)⟩
  have r2 : Vals [V.ref (hp.objs.size + 1), v] [Value.ref (hp.objs.size + 1), u] := .cons rfl (.cons r .nil)
  have fin : ∀ {h' : Heap} {r : Result} {s' : Shared}, Inv X pins σ (upd H (hp.objs.size + 1) (exo (hp.objs.size + 1) C none)) ⟨h', g, dr, tk, os⟩ →
      CR CX0 X.stack X.prog X.w (upd H (hp.objs.size + 1) (exo (hp.objs.size + 1) C none)) ⟨h', g, dr, tk, os⟩ (fun z H2 => z = .non ∧ Q (.ref (hp.objs.size + 1)) H2) E0 r s' →
      match r with
      | .ok (.ret z) => z = .none ∧ EP X pins σ Q (.ref (hp.objs.size + 1)) s'
      | .ok _ => False
      | .error er => X.xe er s' := fun {h' r s'} I2 hc => by
    cases r with
    | error er => exact hc.elim
    | ok fl =>
      cases fl with
      | ret z =>
        obtain ⟨z', H2, I3, rz, ez, q3⟩ := I2.after hc
        subst ez
        exact ⟨rz, V.ref (hp.objs.size + 1), H2, I3, rfl, q3⟩
      | next => exact hc.elim
      | brk => exact hc.elim
      | cont => exact hc.elim
  cases kw with
  | false =>
    obtain ⟨h', eh, I2⟩ := mk [u]
    show wpAny _ _ (call (.ref C) [u]) _ _ _
    refine wpAny_call (PySem.HandSPX.call_own PySem.F.excBase_ValueError (fun Y => PySem.HandSPX.refsVE_contains Y bm hbm) (I.kIn _ _ hC) (PySem.W.looks_findIn I.kIn iC)
      (fun self => PySem.W.bind_fn I.kIn self tI) (by show 1 ≤ sizeLine; rw [sizeLine_eq]; decide) ?_)
    rw [← eh]
    refine codeAny_mono ((F X.prog X.w X.mg X.base).run _ X.stack _ _ ⟨[.ref (hp.objs.size + 1), u], []⟩ [.ref (hp.objs.size + 1), u] _ _ E0 (hr.make C [u] [])
      (I2.env0.make C [u] []) (bP _ [.ref (hp.objs.size + 1), u] I2.kIn rfl) r2 hq) fun r s' hc => ?_
    have z := fin I2 hc
    cases r with
    | error er => exact z
    | ok fl => cases fl <;> exact z
  | true =>
    obtain ⟨h', eh, I2⟩ := mk []
    show wpAny _ _ (call (.ref C) [] [(f, u)]) _ _ _
    refine wpAny_call (PySem.VxE.call_kw PySem.F.excBase_ValueError (fun Y => PySem.HandSPX.refsVE_contains Y bm hbm) (I.kIn _ _ hC) (PySem.W.looks_findIn I.kIn iC)
      (fun self => PySem.W.bind_fn I.kIn self tI) ?_)
    rw [← eh]
    refine codeAny_mono ((F X.prog X.w X.mg X.base).run _ X.stack _ _ ⟨[.ref (hp.objs.size + 1)], [(f, u)]⟩ [.ref (hp.objs.size + 1), u] _ _ E0 (hr.make C [] [(f, u)])
      (I2.env0.make C [] [(f, u)]) (bK _ _ _) r2 hq) fun r s' hc => ?_
    have z := fin I2 hc
    cases r with
    | error er => exact z
    | ok fl => cases fl <;> exact z
/-- C(e) -/
def tXn (C : Addr) (f : Str) (t : TA) : TE := fun σ H Q => t σ H fun vs H1 => ∃ v, vs = [v] ∧ ∀ a H2, Same H1 H2 → ExA H2 a C f v → Q (.ref a) H2
theorem pe_xn {es : List Expr} {t : TA} (T : OexC X.K C) (N : Ini X.K C f) (hr : Room 2 X.A) (hg : Gl X x) (hm : X.mg x = some (.ref C)) (ha : PA X (e :: es) t)
    (hdb : (x == ("__debug__" : Str)) = false := by decide) (hs : starEach (e :: es) X.env = (false, eval e X.env) :: starEach es X.env := by rfl)
    (hpl : (backTo pos (starEach es X.env)).any (·.1) = false := by rfl) : PE X (.Call (.Name x p) (e :: es) [] pos) (tXn C f t) := by
  refine ⟨fun pins s σ H Q I h => ?_⟩
  refine wpAny_Call_Name_kw (ld_glob I hg hm ?_ hdb)
  refine PySem.W.callWith_K (h₀ := X.base) I.ok.mod.kin T.kC (thn (ha.run pos pins s σ H _ I h) ?_) hs hpl
  rintro us s1 ⟨vs, H1, I1, r, v, rfl, q⟩
  obtain ⟨u, rfl, ru⟩ := vals1 r
  exact ⟨I1.kIn, run_exc T N hr I1 ru false q⟩
/-- C(f=e) -/
theorem pe_xk {kws : List Keyword} {t : TA} (T : OexC X.K C) (N : Ini X.K C f) (hr : Room 2 X.A) (hg : Gl X x) (hm : X.mg x = some (.ref C)) (hkw : PK X kws t)
    (hall : (backToKw pos (keywordEach kws X.env)).all (·.1.isSome) = true := by rfl) (hks : (backToKw pos (keywordEach kws X.env)).filterMap (·.1) = [f] := by rfl)
    (hdb : (x == ("__debug__" : Str)) = false := by decide)
    (hpl : ((backTo pos (starEach [] X.env)).any (·.1) || (backToKw pos (keywordEach kws X.env)).any (·.1.isNone)) = false := by rfl) :
    PE X (.Call (.Name x p) [] kws pos) (tXn C f t) := by
  refine ⟨fun pins s σ H Q I h => ?_⟩
  refine wpAny_Call_Name_kw (ld_glob I hg hm ?_ hdb)
  refine PySem.W.callWith_KW0 (h₀ := X.base) I.ok.mod.kin T.kC hall (thn (hkw.run pos pins s σ H _ I h) ?_) hpl
  rintro us s1 ⟨vs, H1, I1, r, v, rfl, q⟩
  obtain ⟨u, rfl, ru⟩ := vals1 r
  refine ⟨I1.kIn, ?_⟩
  rw [hks]
  exact run_exc T N hr I1 ru true q
/-- C() of a class without an own __init__ -/
def tX0 (C : Addr) : TE := fun _ H Q => ∀ a H2, Same H H2 → Ex0 H2 a C → Q (.ref a) H2
theorem pe_x0 {bmB : List Value} {B ni ii : String} (F : ExcBaseFacts B ni ii bmB) (q0 : PySem.W.excIn X.K C bmB ni = true) (kC : PySem.W.keepIn X.K (.ref C) = true) (hg : Gl X x) (hm : X.mg x = some (.ref C))
    (hdb : (x == ("__debug__" : Str)) = false := by decide) : PE X (.Call (.Name x p) [] [] pos) (tX0 C) := by
  refine ⟨fun pins s σ H Q I h => ?_⟩
  refine wpAny_Call_Name_kw (ld_glob I hg hm ?_ hdb)
  refine PySem.W.callWith_K0 I.kIn kC ?_
  obtain ⟨bm, N, nm, qn, bs, hdct, sn, sub, ab, col, dd, k0, k1, k2, k3, k5, mN, hC, hN, hni, T⟩ := exc_obj I.kIn q0
  obtain ⟨hp, g, dr, tk, os⟩ := s
  refine wpAny_call_exc_subT F T hC hN hni (fun h' a hm => ?_) (Nat.zero_le _)
  have hn : H a = none := I.hok.gone hm.new
  obtain ⟨t, ht, _, _⟩ := hm.there
  exact ⟨.ref a, upd H a (exo a C none), I.laidN hm.keeps hm.new hn (exo_ok ht), rfl, h a _ (same_new hn) upd_same⟩
end
end Vx
namespace Vx
open PySem PySem.Spec PyProof.Rows L2

mutual
/-- a bound on the signs of d's repr -/
def cost : PyData → Nat
  | .none => 4
  | .bool _ => 5
  | .int _ => 1922
  | .str x => (reprText x).length
  | .list xs => costs xs + 2
  | .tuple xs => costs xs + 3
  | .dict kvs => costKv kvs + 2
def costs : List PyData → Nat
  | [] => 0
  | x :: xs => cost x + 2 + costs xs
def costKv : List (PyData × PyData) → Nat
  | [] => 0
  | (k, v) :: r => cost k + cost v + 4 + costKv r
end

theorem listText_le (ts : List Str) : (listText ts).length ≤ piled ts + 2 := by
  unfold listText
  rw [strLen_append]
  have e1 : (("]" : String) : Str).length = 1 := rfl
  cases ts with
  | nil =>
    show (("[" : String) : Str).length + _ ≤ _
    decide
  | cons t r =>
    have h : (textFrom 0 "[" (t :: r)) = textFrom 1 ((("[" : String) : Str) ++ ((if 0 > 0 then ", " else "" : String) : Str) ++ t) r := rfl
    rw [h, textFrom_length_pos r 1 _ (by decide), strLen_append, strLen_append, piled_cons, e1]
    have e2 : (("[" : String) : Str).length = 1 := rfl
    have e3 : (((if 0 > 0 then ", " else "" : String) : Str)).length = 0 := by decide
    omega
theorem tupleText_le (ts : List Str) : (tupleText ts).length ≤ piled ts + 3 := by
  have := fmt_text ts
  omega
theorem dictText_le (ts : List Str) : (dictText ts).length ≤ piled ts + 2 := by
  unfold dictText
  rw [strLen_append, strLen_append]
  have e1 : (("}" : String) : Str).length = 1 := rfl
  have e2 : (("{" : String) : Str).length = 1 := rfl
  by_cases h : ts = []
  · subst h
    decide
  · have := join_length_add ts h
    omega
theorem bool_le (b : Bool) : (PyData.bool b).shown.length ≤ 5 := by cases b <;> decide
mutual
theorem shown_le : ∀ d : PyData, d.showable = true → d.shown.length ≤ cost d
  | .none, _ => by decide
  | .bool b, _ => bool_le b
  | .int i, h => by
    have h' : i.natAbs.log2 < 1920 := by simpa [PyData.showable] using h
    have z := PyProof.Rows.int_text_len_1921 h'
    show (Str.ofString (toString i)).length ≤ 1922
    omega
  | .str x, _ => Nat.le_refl _
  | .list xs, h => by
    have z := showns_le xs (by simpa [PyData.showable] using h)
    have y := listText_le (PyData.shownAll xs)
    show (listText (PyData.shownAll xs)).length ≤ costs xs + 2
    omega
  | .tuple xs, h => by
    have z := showns_le xs (by simpa [PyData.showable] using h)
    have y := tupleText_le (PyData.shownAll xs)
    show (tupleText (PyData.shownAll xs)).length ≤ costs xs + 3
    omega
  | .dict kvs, h => by
    have z := shownKv_le kvs (by simpa [PyData.showable] using h)
    have y := dictText_le (PyData.shownKv kvs)
    show (dictText (PyData.shownKv kvs)).length ≤ costKv kvs + 2
    omega
theorem showns_le : ∀ xs : List PyData, PyData.showableAll xs = true → piled (PyData.shownAll xs) ≤ costs xs
  | [], _ => Nat.le_refl _
  | x :: xs, h => by
    have h' : x.showable = true ∧ PyData.showableAll xs = true := by simpa [PyData.showableAll] using h
    have a := shown_le x h'.1
    have b := showns_le xs h'.2
    show piled (x.shown :: PyData.shownAll xs) ≤ cost x + 2 + costs xs
    rw [piled_cons]
    omega
theorem shownKv_le : ∀ kvs : List (PyData × PyData), PyData.showableKv kvs = true → piled (PyData.shownKv kvs) ≤ costKv kvs
  | [], _ => Nat.le_refl _
  | (k, v) :: r, h => by
    have h' : (k.showable = true ∧ v.showable = true) ∧ PyData.showableKv r = true := by simpa [PyData.showableKv] using h
    have a := shown_le k h'.1.1
    have b := shown_le v h'.1.2
    have c := shownKv_le r h'.2
    show piled ((k.shown ++ (((": " : String) : Str)) ++ v.shown) :: PyData.shownKv r) ≤ cost k + cost v + 4 + costKv r
    rw [piled_cons, strLen_append, strLen_append]
    have e : ((": " : String) : Str).length = 2 := rfl
    omega
end
/-- d may be shown -/
def Okd (d : PyData) : Prop := d.showable = true ∧ d.depth < 60 ∧ cost d ≤ 16000000
theorem Okd.fits {d : PyData} (h : Okd d) : d.shown.length ≤ sizeLine := by
  have := shown_le d h.1
  have := h.2.2
  rw [sizeLine_eq]
  omega
/-- what a repr asks, said once -/
theorem repr_q {K : PySem.W.Frag} {H : Hp} {Q : VK} {a : Addr} {d : PyData} (h : Rp K H (.ref a) d) (o : Okd d) (q : Q (.str d.shown) H) :
    ∃ a' d', [V.ref a] = [.ref a'] ∧ Rp K H (.ref a') d' ∧ d'.showable = true ∧ d'.depth < 60 ∧ d'.shown.length ≤ sizeLine ∧ Q (.str d'.shown) H :=
  ⟨a, d, rfl, h, o.1, o.2.1, o.fits, q⟩
theorem rpa_bls {K : PySem.W.Frag} {H : Hp} : ∀ bs : List Bool, RpA K H (bs.map V.bl) (bs.map PyData.bool)
  | [] => .nil
  | b :: bs => .cons (.bl b) (rpa_bls bs)
theorem okd_bls (bs : List Bool) (h : bs.length ≤ 1000) : Okd (.list (bs.map PyData.bool)) := by
  have h1 : ∀ bs : List Bool, PyData.showableAll (bs.map PyData.bool) = true := by
    intro bs
    induction bs with
    | nil => rfl
    | cons b bs ih => simp [PyData.showableAll, PyData.showable, ih]
  have h2 : ∀ bs : List Bool, costs (bs.map PyData.bool) = 7 * bs.length := by
    intro bs
    induction bs with
    | nil => rfl
    | cons b bs ih =>
      show cost (PyData.bool b) + 2 + costs (bs.map PyData.bool) = _
      rw [ih, List.length_cons]
      show 5 + 2 + _ = _
      omega
  have h3 : ∀ bs : List Bool, PyData.depthAll (bs.map PyData.bool) ≤ 1 := by
    intro bs
    induction bs with
    | nil => simp [PyData.depthAll]
    | cons b bs ih =>
      simp only [List.map_cons, PyData.depthAll, PyData.depth]
      omega
  refine ⟨by simpa [PyData.showable] using h1 bs, ?_, ?_⟩
  · have := h3 bs
    simp only [PyData.depth]
    omega
  · show costs (bs.map PyData.bool) + 2 ≤ _
    rw [h2]
    omega
end Vx
namespace Vx
open PySem PySem.Spec PyProof.Rows L2
def top (i : Nat) : Stmt := PySem.Challenge.pw_allhelms_k01_errors_each_of_its_own.main.body.getD i (.Pass ⟨0, 0, 0, 0⟩)
abbrev s__law_reel : Stmt := top 26
abbrev s__law_pull : Stmt := top 27
abbrev s__law_one_of : Stmt := top 28
abbrev s__law_with_given : Stmt := top 29
abbrev s__law_with_given_named : Stmt := top 30
abbrev s__law_with_index : Stmt := top 31
abbrev s__law_with_index_named : Stmt := top 32
abbrev s__law_bare : Stmt := top 33
abbrev s__law_kinds : Stmt := top 34
abbrev s__law_is_under : Stmt := top 35
abbrev s__law_stand : Stmt := top 36
abbrev s__law_thing : Stmt := top 37
abbrev s__law_right : Stmt := top 38
abbrev s_law : Stmt := top 39
/-- the text's classes, as the top has made them -/
structure KF (K : PySem.W.Frag) (mg : Str → Option Value) (HE C0 C1 C2 C3 C4 C5 C6 C7 C8 C9 C10 C11 C12 C13 C14 C15 C16 C17 C18 C19 C20 C21 C22 : Addr) : Prop where
  g : ClsG K
  xH : Xc K HE veUp
  mH : mg "HelmError" = some (.ref HE)
  x0 : Xc K C0 (.ref HE :: veUp)
  m0 : mg "InvalidFraction" = some (.ref C0)
  x1 : Xc K C1 (.ref HE :: veUp)
  m1 : mg "InvalidNumber" = some (.ref C1)
  x2 : Xc K C2 (.ref HE :: veUp)
  m2 : mg "InvalidRow" = some (.ref C2)
  x3 : Xc K C3 (.ref HE :: veUp)
  m3 : mg "InvalidAnswer" = some (.ref C3)
  x4 : Xc K C4 (.ref HE :: veUp)
  m4 : mg "InvalidMachine" = some (.ref C4)
  x5 : Xc K C5 (.ref HE :: veUp)
  m5 : mg "InvalidHelm" = some (.ref C5)
  x6 : Xc K C6 (.ref HE :: veUp)
  m6 : mg "InvalidRule" = some (.ref C6)
  x7 : Xc K C7 (.ref HE :: veUp)
  m7 : mg "InvalidStart" = some (.ref C7)
  x8 : Xc K C8 (.ref HE :: veUp)
  m8 : mg "InvalidIndex" = some (.ref C8)
  x9 : Xc K C9 (.ref HE :: veUp)
  m9 : mg "InvalidName" = some (.ref C9)
  x10 : Xc K C10 (.ref HE :: veUp)
  m10 : mg "InvalidWish" = some (.ref C10)
  x11 : Xc K C11 (.ref HE :: veUp)
  m11 : mg "InvalidPhrase" = some (.ref C11)
  x12 : Xc K C12 (.ref HE :: veUp)
  m12 : mg "UnknownName" = some (.ref C12)
  x13 : Xc K C13 (.ref HE :: veUp)
  m13 : mg "NotAWorkshop" = some (.ref C13)
  x14 : Xc K C14 (.ref HE :: veUp)
  m14 : mg "NotAZero" = some (.ref C14)
  x15 : Xc K C15 (.ref HE :: veUp)
  m15 : mg "InvalidBends" = some (.ref C15)
  x16 : Xc K C16 (.ref HE :: veUp)
  m16 : mg "InUse" = some (.ref C16)
  x17 : Xc K C17 (.ref HE :: veUp)
  m17 : mg "Broken" = some (.ref C17)
  x18 : Xc K C18 (.ref HE :: veUp)
  m18 : mg "NotSteady" = some (.ref C18)
  x19 : Xc K C19 (.ref HE :: veUp)
  m19 : mg "NoHelm" = some (.ref C19)
  x20 : Xc K C20 (.ref HE :: veUp)
  m20 : mg "NotTold" = some (.ref C20)
  x21 : Xc K C21 (.ref HE :: veUp)
  m21 : mg "NoughtFirst" = some (.ref C21)
  x22 : Xc K C22 (.ref HE :: veUp)
  m22 : mg "NothingToUndo" = some (.ref C22)
  i0 : Ini K C0 "given"
  i1 : Ini K C1 "given"
  i2 : Ini K C2 "given"
  i3 : Ini K C3 "given"
  i4 : Ini K C4 "given"
  i5 : Ini K C5 "given"
  i6 : Ini K C6 "given"
  i7 : Ini K C7 "given"
  i8 : Ini K C8 "given"
  i9 : Ini K C9 "given"
  i10 : Ini K C10 "given"
  i11 : Ini K C11 "given"
  i12 : Ini K C12 "given"
  i13 : Ini K C13 "given"
  i14 : Ini K C14 "given"
  i15 : Ini K C15 "index"
  i16 : Ini K C16 "index"
  i17 : Ini K C17 "index"
  eH : PySem.W.excIn K HE veUp "ValueError.__new__" = true
  e18 : PySem.W.excIn K C18 veUp "ValueError.__new__" = true
  e19 : PySem.W.excIn K C19 veUp "ValueError.__new__" = true
  e20 : PySem.W.excIn K C20 veUp "ValueError.__new__" = true
  e21 : PySem.W.excIn K C21 veUp "ValueError.__new__" = true
  e22 : PySem.W.excIn K C22 veUp "ValueError.__new__" = true
  nd : ([HE, C0, C1, C2, C3, C4, C5, C6, C7, C8, C9, C10, C11, C12, C13, C14, C15, C16, C17, C18, C19, C20, C21, C22] : List Addr).Nodup
section
variable {P : Program} {w : World} {K : PySem.W.Frag} {mg : Str → Option Value} {base : Heap} {HE C0 C1 C2 C3 C4 C5 C6 C7 C8 C9 C10 C11 C12 C13 C14 C15 C16 C17 C18 C19 C20 C21 C22 : Addr}
theorem up_be {HE : Addr} : (Value.ref HE :: veUp).contains (.type "BaseException") = true := rfl
theorem up_ob {HE : Addr} : (Value.ref HE :: veUp).contains (.type "object") = true := rfl
theorem up_ve {HE : Addr} : PySem.HandSPX.refsVE (Value.ref HE :: veUp) = true := by rfl
theorem Xc.ox {C HE : Addr} (T : Xc K C (.ref HE :: veUp)) : OexC K C := T.oex up_ve up_be
/-- exceptions of these classes, in their order, that keep v under f -/
def AllX (H : Hp) (f : Str) (v : V) : List Addr → List Addr → Prop
  | [], [] => True
  | e :: es, C :: Cs => ExA H e C f v ∧ AllX H f v es Cs
  | _, _ => False
/-- a def that makes a list of such exceptions -/
def spMk (Cs : List Addr) (f : Str) : Sp := fun vs H Q _ => ∃ v, vs = [v] ∧ ∀ (es : List Addr) (p : Addr) (H' : Hp), Same H H' → H' p = some (.lst (es.map V.ref)) → AllX H' f v es Cs → Q (.ref p) H'

theorem sc__law_with_given : FnScope ["thing"] ["thing"] (defScope s__law_with_given) := ⟨rfl, rfl, rfl, by decide +kernel, rfl, by decide +kernel, by decide +kernel⟩
theorem d__law_with_given (W : FunIn K mg "_law_with_given" s__law_with_given) (T : KF K mg HE C0 C1 C2 C3 C4 C5 C6 C7 C8 C9 C10 C11 C12 C13 C14 C15 C16 C17 C18 C19 C20 C21 C22) : Df P w K mg base "_law_with_given" 3 ["thing"] (spMk [C0, C1, C2, C3, C4, C5, C6, C7, C8, C9, C10, C11, C12, C13, C14] "given") := by
  obtain ⟨f, fd, F, hm⟩ := W
  refine ⟨f, fd, F.ok sc__law_with_given (fun vs H Q E h => ?_) (fun cdv A outer s H vs Q E hr h => ?_), hm, F.kp, F.binds fun _ _ _ _ _ _ us hl => match us, hl with | [_], _ => rfl⟩
  · obtain ⟨v, rfl, _⟩ := h
    rfl
  · obtain ⟨v, rfl, q⟩ := h
    refine ⟨_, pss_one (ps_ret (pe_lst (pa_cons (pe_xn T.x0.ox T.i0 (hr.mono (by decide)) (by rfl) T.m0 (pa_cons (pv 0) pa_nil))
        (pa_cons (pe_xn T.x1.ox T.i1 (hr.mono (by decide)) (by rfl) T.m1 (pa_cons (pv 0) pa_nil))
        (pa_cons (pe_xn T.x2.ox T.i2 (hr.mono (by decide)) (by rfl) T.m2 (pa_cons (pv 0) pa_nil))
        (pa_cons (pe_xn T.x3.ox T.i3 (hr.mono (by decide)) (by rfl) T.m3 (pa_cons (pv 0) pa_nil))
        (pa_cons (pe_xn T.x4.ox T.i4 (hr.mono (by decide)) (by rfl) T.m4 (pa_cons (pv 0) pa_nil))
        (pa_cons (pe_xn T.x5.ox T.i5 (hr.mono (by decide)) (by rfl) T.m5 (pa_cons (pv 0) pa_nil))
        (pa_cons (pe_xn T.x6.ox T.i6 (hr.mono (by decide)) (by rfl) T.m6 (pa_cons (pv 0) pa_nil))
        (pa_cons (pe_xn T.x7.ox T.i7 (hr.mono (by decide)) (by rfl) T.m7 (pa_cons (pv 0) pa_nil))
        (pa_cons (pe_xn T.x8.ox T.i8 (hr.mono (by decide)) (by rfl) T.m8 (pa_cons (pv 0) pa_nil))
        (pa_cons (pe_xn T.x9.ox T.i9 (hr.mono (by decide)) (by rfl) T.m9 (pa_cons (pv 0) pa_nil))
        (pa_cons (pe_xn T.x10.ox T.i10 (hr.mono (by decide)) (by rfl) T.m10 (pa_cons (pv 0) pa_nil))
        (pa_cons (pe_xn T.x11.ox T.i11 (hr.mono (by decide)) (by rfl) T.m11 (pa_cons (pv 0) pa_nil))
        (pa_cons (pe_xn T.x12.ox T.i12 (hr.mono (by decide)) (by rfl) T.m12 (pa_cons (pv 0) pa_nil))
        (pa_cons (pe_xn T.x13.ox T.i13 (hr.mono (by decide)) (by rfl) T.m13 (pa_cons (pv 0) pa_nil))
        (pa_cons (pe_xn T.x14.ox T.i14 (hr.mono (by decide)) (by rfl) T.m14 (pa_cons (pv 0) pa_nil))
        pa_nil))))))))))))))))), ?_⟩
    refine ⟨_, rfl, _, rfl, fun a0 H0 s0 y0 => ?_⟩
    refine ⟨_, rfl, _, rfl, fun a1 H1 s1 y1 => ?_⟩
    refine ⟨_, rfl, _, rfl, fun a2 H2 s2 y2 => ?_⟩
    refine ⟨_, rfl, _, rfl, fun a3 H3 s3 y3 => ?_⟩
    refine ⟨_, rfl, _, rfl, fun a4 H4 s4 y4 => ?_⟩
    refine ⟨_, rfl, _, rfl, fun a5 H5 s5 y5 => ?_⟩
    refine ⟨_, rfl, _, rfl, fun a6 H6 s6 y6 => ?_⟩
    refine ⟨_, rfl, _, rfl, fun a7 H7 s7 y7 => ?_⟩
    refine ⟨_, rfl, _, rfl, fun a8 H8 s8 y8 => ?_⟩
    refine ⟨_, rfl, _, rfl, fun a9 H9 s9 y9 => ?_⟩
    refine ⟨_, rfl, _, rfl, fun a10 H10 s10 y10 => ?_⟩
    refine ⟨_, rfl, _, rfl, fun a11 H11 s11 y11 => ?_⟩
    refine ⟨_, rfl, _, rfl, fun a12 H12 s12 y12 => ?_⟩
    refine ⟨_, rfl, _, rfl, fun a13 H13 s13 y13 => ?_⟩
    refine ⟨_, rfl, _, rfl, fun a14 H14 s14 y14 => ?_⟩
    refine ⟨(by show 15 ≤ sizeLine; decide), fun p hp => ?_⟩
    have f14 := same_new (o := .lst ([a0, a1, a2, a3, a4, a5, a6, a7, a8, a9, a10, a11, a12, a13, a14].map V.ref)) hp
    have f13 := s14.trans f14
    have f12 := s13.trans f13
    have f11 := s12.trans f12
    have f10 := s11.trans f11
    have f9 := s10.trans f10
    have f8 := s9.trans f9
    have f7 := s8.trans f8
    have f6 := s7.trans f7
    have f5 := s6.trans f6
    have f4 := s5.trans f5
    have f3 := s4.trans f4
    have f2 := s3.trans f3
    have f1 := s2.trans f2
    have f0 := s1.trans f1
    exact q [a0, a1, a2, a3, a4, a5, a6, a7, a8, a9, a10, a11, a12, a13, a14] p _ (s0.trans f0) upd_same ⟨y0.mono f0, y1.mono f1, y2.mono f2, y3.mono f3, y4.mono f4, y5.mono f5, y6.mono f6, y7.mono f7, y8.mono f8, y9.mono f9, y10.mono f10, y11.mono f11, y12.mono f12, y13.mono f13, y14.mono f14, trivial⟩

theorem sc__law_with_given_named : FnScope ["thing"] ["thing"] (defScope s__law_with_given_named) := ⟨rfl, rfl, rfl, by decide +kernel, rfl, by decide +kernel, by decide +kernel⟩
theorem d__law_with_given_named (W : FunIn K mg "_law_with_given_named" s__law_with_given_named) (T : KF K mg HE C0 C1 C2 C3 C4 C5 C6 C7 C8 C9 C10 C11 C12 C13 C14 C15 C16 C17 C18 C19 C20 C21 C22) : Df P w K mg base "_law_with_given_named" 3 ["thing"] (spMk [C0, C1, C2, C3, C4, C5, C6, C7, C8, C9, C10, C11, C12, C13, C14] "given") := by
  obtain ⟨f, fd, F, hm⟩ := W
  refine ⟨f, fd, F.ok sc__law_with_given_named (fun vs H Q E h => ?_) (fun cdv A outer s H vs Q E hr h => ?_), hm, F.kp, F.binds fun _ _ _ _ _ _ us hl => match us, hl with | [_], _ => rfl⟩
  · obtain ⟨v, rfl, _⟩ := h
    rfl
  · obtain ⟨v, rfl, q⟩ := h
    refine ⟨_, pss_one (ps_ret (pe_lst (pa_cons (pe_xk T.x0.ox T.i0 (hr.mono (by decide)) (by rfl) T.m0 (pk_cons (pv 0) pk_nil))
        (pa_cons (pe_xk T.x1.ox T.i1 (hr.mono (by decide)) (by rfl) T.m1 (pk_cons (pv 0) pk_nil))
        (pa_cons (pe_xk T.x2.ox T.i2 (hr.mono (by decide)) (by rfl) T.m2 (pk_cons (pv 0) pk_nil))
        (pa_cons (pe_xk T.x3.ox T.i3 (hr.mono (by decide)) (by rfl) T.m3 (pk_cons (pv 0) pk_nil))
        (pa_cons (pe_xk T.x4.ox T.i4 (hr.mono (by decide)) (by rfl) T.m4 (pk_cons (pv 0) pk_nil))
        (pa_cons (pe_xk T.x5.ox T.i5 (hr.mono (by decide)) (by rfl) T.m5 (pk_cons (pv 0) pk_nil))
        (pa_cons (pe_xk T.x6.ox T.i6 (hr.mono (by decide)) (by rfl) T.m6 (pk_cons (pv 0) pk_nil))
        (pa_cons (pe_xk T.x7.ox T.i7 (hr.mono (by decide)) (by rfl) T.m7 (pk_cons (pv 0) pk_nil))
        (pa_cons (pe_xk T.x8.ox T.i8 (hr.mono (by decide)) (by rfl) T.m8 (pk_cons (pv 0) pk_nil))
        (pa_cons (pe_xk T.x9.ox T.i9 (hr.mono (by decide)) (by rfl) T.m9 (pk_cons (pv 0) pk_nil))
        (pa_cons (pe_xk T.x10.ox T.i10 (hr.mono (by decide)) (by rfl) T.m10 (pk_cons (pv 0) pk_nil))
        (pa_cons (pe_xk T.x11.ox T.i11 (hr.mono (by decide)) (by rfl) T.m11 (pk_cons (pv 0) pk_nil))
        (pa_cons (pe_xk T.x12.ox T.i12 (hr.mono (by decide)) (by rfl) T.m12 (pk_cons (pv 0) pk_nil))
        (pa_cons (pe_xk T.x13.ox T.i13 (hr.mono (by decide)) (by rfl) T.m13 (pk_cons (pv 0) pk_nil))
        (pa_cons (pe_xk T.x14.ox T.i14 (hr.mono (by decide)) (by rfl) T.m14 (pk_cons (pv 0) pk_nil))
        pa_nil))))))))))))))))), ?_⟩
    refine ⟨_, rfl, _, rfl, fun a0 H0 s0 y0 => ?_⟩
    refine ⟨_, rfl, _, rfl, fun a1 H1 s1 y1 => ?_⟩
    refine ⟨_, rfl, _, rfl, fun a2 H2 s2 y2 => ?_⟩
    refine ⟨_, rfl, _, rfl, fun a3 H3 s3 y3 => ?_⟩
    refine ⟨_, rfl, _, rfl, fun a4 H4 s4 y4 => ?_⟩
    refine ⟨_, rfl, _, rfl, fun a5 H5 s5 y5 => ?_⟩
    refine ⟨_, rfl, _, rfl, fun a6 H6 s6 y6 => ?_⟩
    refine ⟨_, rfl, _, rfl, fun a7 H7 s7 y7 => ?_⟩
    refine ⟨_, rfl, _, rfl, fun a8 H8 s8 y8 => ?_⟩
    refine ⟨_, rfl, _, rfl, fun a9 H9 s9 y9 => ?_⟩
    refine ⟨_, rfl, _, rfl, fun a10 H10 s10 y10 => ?_⟩
    refine ⟨_, rfl, _, rfl, fun a11 H11 s11 y11 => ?_⟩
    refine ⟨_, rfl, _, rfl, fun a12 H12 s12 y12 => ?_⟩
    refine ⟨_, rfl, _, rfl, fun a13 H13 s13 y13 => ?_⟩
    refine ⟨_, rfl, _, rfl, fun a14 H14 s14 y14 => ?_⟩
    refine ⟨(by show 15 ≤ sizeLine; decide), fun p hp => ?_⟩
    have f14 := same_new (o := .lst ([a0, a1, a2, a3, a4, a5, a6, a7, a8, a9, a10, a11, a12, a13, a14].map V.ref)) hp
    have f13 := s14.trans f14
    have f12 := s13.trans f13
    have f11 := s12.trans f12
    have f10 := s11.trans f11
    have f9 := s10.trans f10
    have f8 := s9.trans f9
    have f7 := s8.trans f8
    have f6 := s7.trans f7
    have f5 := s6.trans f6
    have f4 := s5.trans f5
    have f3 := s4.trans f4
    have f2 := s3.trans f3
    have f1 := s2.trans f2
    have f0 := s1.trans f1
    exact q [a0, a1, a2, a3, a4, a5, a6, a7, a8, a9, a10, a11, a12, a13, a14] p _ (s0.trans f0) upd_same ⟨y0.mono f0, y1.mono f1, y2.mono f2, y3.mono f3, y4.mono f4, y5.mono f5, y6.mono f6, y7.mono f7, y8.mono f8, y9.mono f9, y10.mono f10, y11.mono f11, y12.mono f12, y13.mono f13, y14.mono f14, trivial⟩

theorem sc__law_with_index : FnScope ["thing"] ["thing"] (defScope s__law_with_index) := ⟨rfl, rfl, rfl, by decide +kernel, rfl, by decide +kernel, by decide +kernel⟩
theorem d__law_with_index (W : FunIn K mg "_law_with_index" s__law_with_index) (T : KF K mg HE C0 C1 C2 C3 C4 C5 C6 C7 C8 C9 C10 C11 C12 C13 C14 C15 C16 C17 C18 C19 C20 C21 C22) : Df P w K mg base "_law_with_index" 3 ["thing"] (spMk [C15, C16, C17] "index") := by
  obtain ⟨f, fd, F, hm⟩ := W
  refine ⟨f, fd, F.ok sc__law_with_index (fun vs H Q E h => ?_) (fun cdv A outer s H vs Q E hr h => ?_), hm, F.kp, F.binds fun _ _ _ _ _ _ us hl => match us, hl with | [_], _ => rfl⟩
  · obtain ⟨v, rfl, _⟩ := h
    rfl
  · obtain ⟨v, rfl, q⟩ := h
    refine ⟨_, pss_one (ps_ret (pe_lst (pa_cons (pe_xn T.x15.ox T.i15 (hr.mono (by decide)) (by rfl) T.m15 (pa_cons (pv 0) pa_nil))
        (pa_cons (pe_xn T.x16.ox T.i16 (hr.mono (by decide)) (by rfl) T.m16 (pa_cons (pv 0) pa_nil))
        (pa_cons (pe_xn T.x17.ox T.i17 (hr.mono (by decide)) (by rfl) T.m17 (pa_cons (pv 0) pa_nil))
        pa_nil))))), ?_⟩
    refine ⟨_, rfl, _, rfl, fun a0 H0 s0 y0 => ?_⟩
    refine ⟨_, rfl, _, rfl, fun a1 H1 s1 y1 => ?_⟩
    refine ⟨_, rfl, _, rfl, fun a2 H2 s2 y2 => ?_⟩
    refine ⟨(by show 3 ≤ sizeLine; decide), fun p hp => ?_⟩
    have f2 := same_new (o := .lst ([a0, a1, a2].map V.ref)) hp
    have f1 := s2.trans f2
    have f0 := s1.trans f1
    exact q [a0, a1, a2] p _ (s0.trans f0) upd_same ⟨y0.mono f0, y1.mono f1, y2.mono f2, trivial⟩

theorem sc__law_with_index_named : FnScope ["thing"] ["thing"] (defScope s__law_with_index_named) := ⟨rfl, rfl, rfl, by decide +kernel, rfl, by decide +kernel, by decide +kernel⟩
theorem d__law_with_index_named (W : FunIn K mg "_law_with_index_named" s__law_with_index_named) (T : KF K mg HE C0 C1 C2 C3 C4 C5 C6 C7 C8 C9 C10 C11 C12 C13 C14 C15 C16 C17 C18 C19 C20 C21 C22) : Df P w K mg base "_law_with_index_named" 3 ["thing"] (spMk [C15, C16, C17] "index") := by
  obtain ⟨f, fd, F, hm⟩ := W
  refine ⟨f, fd, F.ok sc__law_with_index_named (fun vs H Q E h => ?_) (fun cdv A outer s H vs Q E hr h => ?_), hm, F.kp, F.binds fun _ _ _ _ _ _ us hl => match us, hl with | [_], _ => rfl⟩
  · obtain ⟨v, rfl, _⟩ := h
    rfl
  · obtain ⟨v, rfl, q⟩ := h
    refine ⟨_, pss_one (ps_ret (pe_lst (pa_cons (pe_xk T.x15.ox T.i15 (hr.mono (by decide)) (by rfl) T.m15 (pk_cons (pv 0) pk_nil))
        (pa_cons (pe_xk T.x16.ox T.i16 (hr.mono (by decide)) (by rfl) T.m16 (pk_cons (pv 0) pk_nil))
        (pa_cons (pe_xk T.x17.ox T.i17 (hr.mono (by decide)) (by rfl) T.m17 (pk_cons (pv 0) pk_nil))
        pa_nil))))), ?_⟩
    refine ⟨_, rfl, _, rfl, fun a0 H0 s0 y0 => ?_⟩
    refine ⟨_, rfl, _, rfl, fun a1 H1 s1 y1 => ?_⟩
    refine ⟨_, rfl, _, rfl, fun a2 H2 s2 y2 => ?_⟩
    refine ⟨(by show 3 ≤ sizeLine; decide), fun p hp => ?_⟩
    have f2 := same_new (o := .lst ([a0, a1, a2].map V.ref)) hp
    have f1 := s2.trans f2
    have f0 := s1.trans f1
    exact q [a0, a1, a2] p _ (s0.trans f0) upd_same ⟨y0.mono f0, y1.mono f1, y2.mono f2, trivial⟩
end
end Vx
namespace Vx
open PySem PySem.Spec PyProof.Rows L2
section
variable {P : Program} {w : World} {K : PySem.W.Frag} {mg : Str → Option Value} {base : Heap} {HE C0 C1 C2 C3 C4 C5 C6 C7 C8 C9 C10 C11 C12 C13 C14 C15 C16 C17 C18 C19 C20 C21 C22 : Addr}
/-- exceptions of these classes, in their order -/
def AllI (H : Hp) : List Addr → List Addr → Prop
  | [], [] => True
  | e :: es, C :: Cs => IsEx H e C ∧ AllI H es Cs
  | _, _ => False
theorem AllX.all {H : Hp} {f : Str} {v : V} : ∀ {es Cs : List Addr}, AllX H f v es Cs → AllI H es Cs
  | [], [], _ => trivial
  | _ :: _, _ :: _, h => ⟨h.1.is, AllX.all h.2⟩
  | [], _ :: _, h => h.elim
  | _ :: _, [], h => h.elim
theorem AllI.mono {H H' : Hp} (s : Same H H') : ∀ {es Cs : List Addr}, AllI H es Cs → AllI H' es Cs
  | [], [], _ => trivial
  | _ :: _, _ :: _, h => ⟨h.1.mono s, AllI.mono s h.2⟩
  | [], _ :: _, h => h.elim
  | _ :: _, [], h => h.elim
theorem AllI.at {H : Hp} : ∀ {es Cs : List Addr} {i : Nat} {e : Addr}, AllI H es Cs → es[i]? = some e → ∃ C, Cs[i]? = some C ∧ IsEx H e C
  | [], [], i, e, _, h => by simp at h
  | a :: es, C :: Cs, 0, e, h, z => by
    have z' : a = e := by simpa using z
    exact ⟨C, rfl, z' ▸ h.1⟩
  | a :: es, C :: Cs, i + 1, e, h, z => by
    obtain ⟨D, e1, e2⟩ := AllI.at (i := i) h.2 (by simpa using z)
    exact ⟨D, by simpa using e1, e2⟩
  | [], _ :: _, _, _, h, _ => h.elim
  | _ :: _, [], _, _, h, _ => h.elim
theorem AllI.len {H : Hp} : ∀ {es Cs : List Addr}, AllI H es Cs → es.length = Cs.length
  | [], [], _ => rfl
  | _ :: _, _ :: _, h => by rw [List.length_cons, List.length_cons, AllI.len h.2]
  | [], _ :: _, h => h.elim
  | _ :: _, [], h => h.elim
def spBare (Cs : List Addr) : Sp := fun vs H Q _ => vs = [] ∧ ∀ (es : List Addr) (p : Addr) (H' : Hp), Same H H' → H' p = some (.lst (es.map V.ref)) → AllI H' es Cs → Q (.ref p) H'
theorem sc_bare : FnScope [] [] (defScope s__law_bare) := ⟨rfl, rfl, rfl, by decide +kernel, rfl, by decide +kernel, by decide +kernel⟩
theorem d__law_bare (W : FunIn K mg "_law_bare" s__law_bare) (T : KF K mg HE C0 C1 C2 C3 C4 C5 C6 C7 C8 C9 C10 C11 C12 C13 C14 C15 C16 C17 C18 C19 C20 C21 C22) : Df P w K mg base "_law_bare" 1 [] (spBare [C18, C19, C20, C21, C22]) := by
  obtain ⟨f, fd, F, hm⟩ := W
  refine ⟨f, fd, F.ok sc_bare (fun vs H Q E h => ?_) (fun cdv A outer s H vs Q E hr h => ?_), hm, F.kp, F.binds fun _ _ _ _ _ _ us hl => match us, hl with | [], _ => rfl⟩
  · obtain ⟨rfl, _⟩ := h
    rfl
  · obtain ⟨rfl, q⟩ := h
    refine ⟨_, pss_one (ps_ret (pe_lst (pa_cons (pe_x0 PySem.F.excBase_ValueError T.e18 T.x18.kC (by rfl) T.m18) (pa_cons (pe_x0 PySem.F.excBase_ValueError T.e19 T.x19.kC (by rfl) T.m19) (pa_cons (pe_x0 PySem.F.excBase_ValueError T.e20 T.x20.kC (by rfl) T.m20) (pa_cons (pe_x0 PySem.F.excBase_ValueError T.e21 T.x21.kC (by rfl) T.m21) (pa_cons (pe_x0 PySem.F.excBase_ValueError T.e22 T.x22.kC (by rfl) T.m22) pa_nil))))))), ?_⟩
    refine fun a0 H0 s0 y0 => ?_
    refine fun a1 H1 s1 y1 => ?_
    refine fun a2 H2 s2 y2 => ?_
    refine fun a3 H3 s3 y3 => ?_
    refine fun a4 H4 s4 y4 => ?_
    refine ⟨(by show 5 ≤ sizeLine; decide), fun p hp => ?_⟩
    have f4 := same_new (o := .lst ([a0, a1, a2, a3, a4].map V.ref)) hp
    have f3 := s4.trans f4
    have f2 := s3.trans f3
    have f1 := s2.trans f2
    have f0 := s1.trans f1
    exact q [a0, a1, a2, a3, a4] p _ (s0.trans f0) upd_same ⟨y0.is.mono f0, y1.is.mono f1, y2.is.mono f2, y3.is.mono f3, y4.is.mono f4, trivial⟩
/-- what stands for e's class, told by _law_kinds -/
def kinds (Cs : List Addr) (C : Addr) (up : List Value) : List Bool := Cs.map fun D => (Value.ref C :: up).contains (.ref D)
/-- an error of the text: its class and the way up -/
def Err (K : PySem.W.Frag) (HE : Addr) (H : Hp) (a C : Addr) (up : List Value) : Prop := IsEx H a C ∧ Xc K C up ∧ ((C = HE ∧ up = veUp) ∨ up = .ref HE :: veUp)
theorem Err.be {H : Hp} {a C : Addr} {up : List Value} (h : Err K HE H a C up) : up.contains (.type "BaseException") = true := by
  rcases h.2.2 with ⟨_, rfl⟩ | rfl <;> rfl
theorem Err.ob {H : Hp} {a C : Addr} {up : List Value} (h : Err K HE H a C up) : up.contains (.type "object") = true := by
  rcases h.2.2 with ⟨_, rfl⟩ | rfl <;> rfl
theorem Err.mono {H H' : Hp} {a C : Addr} {up : List Value} (s : Same H H') (h : Err K HE H a C up) : Err K HE H' a C up := ⟨h.1.mono s, h.2.1, h.2.2⟩
def spKinds (K : PySem.W.Frag) (HE : Addr) (Cs : List Addr) : Sp := fun vs H Q _ => ∃ (a C : Addr) (up : List Value), vs = [.ref a] ∧ Err K HE H a C up ∧
  ∀ (p : Addr) (H' : Hp), Same H H' → H' p = some (.lst ((kinds Cs C up).map V.bl)) → Q (.ref p) H'
theorem sc_kinds : FnScope ["e"] ["e"] (defScope s__law_kinds) := ⟨rfl, rfl, rfl, by decide +kernel, rfl, by decide +kernel, by decide +kernel⟩
theorem d__law_kinds (W : FunIn K mg "_law_kinds" s__law_kinds) (B : Bls mg) (T : KF K mg HE C0 C1 C2 C3 C4 C5 C6 C7 C8 C9 C10 C11 C12 C13 C14 C15 C16 C17 C18 C19 C20 C21 C22) : Df P w K mg base "_law_kinds" 1 ["e"] (spKinds K HE [C0, C1, C2, C3, C4, C5, C6, C7, C8, C9, C10, C11, C12, C13, C14, C15, C16, C17, C18, C19, C20, C21, C22]) := by
  obtain ⟨f, fd, F, hm⟩ := W
  refine ⟨f, fd, F.ok sc_kinds (fun vs H Q E h => ?_) (fun cdv A outer s H vs Q E hr h => ?_), hm, F.kp, F.binds fun _ _ _ _ _ _ us hl => match us, hl with | [_], _ => rfl⟩
  · obtain ⟨a, C, up, rfl, _⟩ := h
    rfl
  · obtain ⟨a, C, up, rfl, hE, q⟩ := h
    refine ⟨_, pss_one (ps_ret (pe_lst (pa_cons (pe_callB (call_isX T.g) (by rfl) B.n_isinstance (by decide +kernel) (pa_cons (pv 0) (pa_cons (pe_glob (v := .ref C0) rfl T.m0 rfl) pa_nil)))
        (pa_cons (pe_callB (call_isX T.g) (by rfl) B.n_isinstance (by decide +kernel) (pa_cons (pv 0) (pa_cons (pe_glob (v := .ref C1) rfl T.m1 rfl) pa_nil)))
        (pa_cons (pe_callB (call_isX T.g) (by rfl) B.n_isinstance (by decide +kernel) (pa_cons (pv 0) (pa_cons (pe_glob (v := .ref C2) rfl T.m2 rfl) pa_nil)))
        (pa_cons (pe_callB (call_isX T.g) (by rfl) B.n_isinstance (by decide +kernel) (pa_cons (pv 0) (pa_cons (pe_glob (v := .ref C3) rfl T.m3 rfl) pa_nil)))
        (pa_cons (pe_callB (call_isX T.g) (by rfl) B.n_isinstance (by decide +kernel) (pa_cons (pv 0) (pa_cons (pe_glob (v := .ref C4) rfl T.m4 rfl) pa_nil)))
        (pa_cons (pe_callB (call_isX T.g) (by rfl) B.n_isinstance (by decide +kernel) (pa_cons (pv 0) (pa_cons (pe_glob (v := .ref C5) rfl T.m5 rfl) pa_nil)))
        (pa_cons (pe_callB (call_isX T.g) (by rfl) B.n_isinstance (by decide +kernel) (pa_cons (pv 0) (pa_cons (pe_glob (v := .ref C6) rfl T.m6 rfl) pa_nil)))
        (pa_cons (pe_callB (call_isX T.g) (by rfl) B.n_isinstance (by decide +kernel) (pa_cons (pv 0) (pa_cons (pe_glob (v := .ref C7) rfl T.m7 rfl) pa_nil)))
        (pa_cons (pe_callB (call_isX T.g) (by rfl) B.n_isinstance (by decide +kernel) (pa_cons (pv 0) (pa_cons (pe_glob (v := .ref C8) rfl T.m8 rfl) pa_nil)))
        (pa_cons (pe_callB (call_isX T.g) (by rfl) B.n_isinstance (by decide +kernel) (pa_cons (pv 0) (pa_cons (pe_glob (v := .ref C9) rfl T.m9 rfl) pa_nil)))
        (pa_cons (pe_callB (call_isX T.g) (by rfl) B.n_isinstance (by decide +kernel) (pa_cons (pv 0) (pa_cons (pe_glob (v := .ref C10) rfl T.m10 rfl) pa_nil)))
        (pa_cons (pe_callB (call_isX T.g) (by rfl) B.n_isinstance (by decide +kernel) (pa_cons (pv 0) (pa_cons (pe_glob (v := .ref C11) rfl T.m11 rfl) pa_nil)))
        (pa_cons (pe_callB (call_isX T.g) (by rfl) B.n_isinstance (by decide +kernel) (pa_cons (pv 0) (pa_cons (pe_glob (v := .ref C12) rfl T.m12 rfl) pa_nil)))
        (pa_cons (pe_callB (call_isX T.g) (by rfl) B.n_isinstance (by decide +kernel) (pa_cons (pv 0) (pa_cons (pe_glob (v := .ref C13) rfl T.m13 rfl) pa_nil)))
        (pa_cons (pe_callB (call_isX T.g) (by rfl) B.n_isinstance (by decide +kernel) (pa_cons (pv 0) (pa_cons (pe_glob (v := .ref C14) rfl T.m14 rfl) pa_nil)))
        (pa_cons (pe_callB (call_isX T.g) (by rfl) B.n_isinstance (by decide +kernel) (pa_cons (pv 0) (pa_cons (pe_glob (v := .ref C15) rfl T.m15 rfl) pa_nil)))
        (pa_cons (pe_callB (call_isX T.g) (by rfl) B.n_isinstance (by decide +kernel) (pa_cons (pv 0) (pa_cons (pe_glob (v := .ref C16) rfl T.m16 rfl) pa_nil)))
        (pa_cons (pe_callB (call_isX T.g) (by rfl) B.n_isinstance (by decide +kernel) (pa_cons (pv 0) (pa_cons (pe_glob (v := .ref C17) rfl T.m17 rfl) pa_nil)))
        (pa_cons (pe_callB (call_isX T.g) (by rfl) B.n_isinstance (by decide +kernel) (pa_cons (pv 0) (pa_cons (pe_glob (v := .ref C18) rfl T.m18 rfl) pa_nil)))
        (pa_cons (pe_callB (call_isX T.g) (by rfl) B.n_isinstance (by decide +kernel) (pa_cons (pv 0) (pa_cons (pe_glob (v := .ref C19) rfl T.m19 rfl) pa_nil)))
        (pa_cons (pe_callB (call_isX T.g) (by rfl) B.n_isinstance (by decide +kernel) (pa_cons (pv 0) (pa_cons (pe_glob (v := .ref C20) rfl T.m20 rfl) pa_nil)))
        (pa_cons (pe_callB (call_isX T.g) (by rfl) B.n_isinstance (by decide +kernel) (pa_cons (pv 0) (pa_cons (pe_glob (v := .ref C21) rfl T.m21 rfl) pa_nil)))
        (pa_cons (pe_callB (call_isX T.g) (by rfl) B.n_isinstance (by decide +kernel) (pa_cons (pv 0) (pa_cons (pe_glob (v := .ref C22) rfl T.m22 rfl) pa_nil)))
        pa_nil))))))))))))))))))))))))), ?_⟩
    refine ⟨_, rfl, a, C, up, _, .ref C0, _, rfl, hE.1, hE.2.1, hE.be, hE.ob, (fun u r => r), hE.2.1.kit T.x0, ?_⟩
    refine ⟨_, rfl, a, C, up, _, .ref C1, _, rfl, hE.1, hE.2.1, hE.be, hE.ob, (fun u r => r), hE.2.1.kit T.x1, ?_⟩
    refine ⟨_, rfl, a, C, up, _, .ref C2, _, rfl, hE.1, hE.2.1, hE.be, hE.ob, (fun u r => r), hE.2.1.kit T.x2, ?_⟩
    refine ⟨_, rfl, a, C, up, _, .ref C3, _, rfl, hE.1, hE.2.1, hE.be, hE.ob, (fun u r => r), hE.2.1.kit T.x3, ?_⟩
    refine ⟨_, rfl, a, C, up, _, .ref C4, _, rfl, hE.1, hE.2.1, hE.be, hE.ob, (fun u r => r), hE.2.1.kit T.x4, ?_⟩
    refine ⟨_, rfl, a, C, up, _, .ref C5, _, rfl, hE.1, hE.2.1, hE.be, hE.ob, (fun u r => r), hE.2.1.kit T.x5, ?_⟩
    refine ⟨_, rfl, a, C, up, _, .ref C6, _, rfl, hE.1, hE.2.1, hE.be, hE.ob, (fun u r => r), hE.2.1.kit T.x6, ?_⟩
    refine ⟨_, rfl, a, C, up, _, .ref C7, _, rfl, hE.1, hE.2.1, hE.be, hE.ob, (fun u r => r), hE.2.1.kit T.x7, ?_⟩
    refine ⟨_, rfl, a, C, up, _, .ref C8, _, rfl, hE.1, hE.2.1, hE.be, hE.ob, (fun u r => r), hE.2.1.kit T.x8, ?_⟩
    refine ⟨_, rfl, a, C, up, _, .ref C9, _, rfl, hE.1, hE.2.1, hE.be, hE.ob, (fun u r => r), hE.2.1.kit T.x9, ?_⟩
    refine ⟨_, rfl, a, C, up, _, .ref C10, _, rfl, hE.1, hE.2.1, hE.be, hE.ob, (fun u r => r), hE.2.1.kit T.x10, ?_⟩
    refine ⟨_, rfl, a, C, up, _, .ref C11, _, rfl, hE.1, hE.2.1, hE.be, hE.ob, (fun u r => r), hE.2.1.kit T.x11, ?_⟩
    refine ⟨_, rfl, a, C, up, _, .ref C12, _, rfl, hE.1, hE.2.1, hE.be, hE.ob, (fun u r => r), hE.2.1.kit T.x12, ?_⟩
    refine ⟨_, rfl, a, C, up, _, .ref C13, _, rfl, hE.1, hE.2.1, hE.be, hE.ob, (fun u r => r), hE.2.1.kit T.x13, ?_⟩
    refine ⟨_, rfl, a, C, up, _, .ref C14, _, rfl, hE.1, hE.2.1, hE.be, hE.ob, (fun u r => r), hE.2.1.kit T.x14, ?_⟩
    refine ⟨_, rfl, a, C, up, _, .ref C15, _, rfl, hE.1, hE.2.1, hE.be, hE.ob, (fun u r => r), hE.2.1.kit T.x15, ?_⟩
    refine ⟨_, rfl, a, C, up, _, .ref C16, _, rfl, hE.1, hE.2.1, hE.be, hE.ob, (fun u r => r), hE.2.1.kit T.x16, ?_⟩
    refine ⟨_, rfl, a, C, up, _, .ref C17, _, rfl, hE.1, hE.2.1, hE.be, hE.ob, (fun u r => r), hE.2.1.kit T.x17, ?_⟩
    refine ⟨_, rfl, a, C, up, _, .ref C18, _, rfl, hE.1, hE.2.1, hE.be, hE.ob, (fun u r => r), hE.2.1.kit T.x18, ?_⟩
    refine ⟨_, rfl, a, C, up, _, .ref C19, _, rfl, hE.1, hE.2.1, hE.be, hE.ob, (fun u r => r), hE.2.1.kit T.x19, ?_⟩
    refine ⟨_, rfl, a, C, up, _, .ref C20, _, rfl, hE.1, hE.2.1, hE.be, hE.ob, (fun u r => r), hE.2.1.kit T.x20, ?_⟩
    refine ⟨_, rfl, a, C, up, _, .ref C21, _, rfl, hE.1, hE.2.1, hE.be, hE.ob, (fun u r => r), hE.2.1.kit T.x21, ?_⟩
    refine ⟨_, rfl, a, C, up, _, .ref C22, _, rfl, hE.1, hE.2.1, hE.be, hE.ob, (fun u r => r), hE.2.1.kit T.x22, ?_⟩
    exact ⟨(by show 23 ≤ sizeLine; decide), fun p hp => q p _ (same_new hp) upd_same⟩
def spUnder (K : PySem.W.Frag) (HE : Addr) : Sp := fun vs H Q _ => ∃ (a C : Addr) (up : List Value), vs = [.ref a] ∧ Err K HE H a C up ∧ ∀ H', Same H H' → Q (.bl true) H'
theorem sc_under : FnScope ["e"] ["e"] (defScope s__law_is_under) := ⟨rfl, rfl, rfl, by decide +kernel, rfl, by decide +kernel, by decide +kernel⟩
theorem d__law_is_under (W : FunIn K mg "_law_is_under" s__law_is_under) (B : Bls mg) (L : mg "ValueError" = none ∧ mg "LookupError" = none ∧ mg "TypeError" = none ∧ mg "ArithmeticError" = none ∧ mg "RuntimeError" = none)
    (T : KF K mg HE C0 C1 C2 C3 C4 C5 C6 C7 C8 C9 C10 C11 C12 C13 C14 C15 C16 C17 C18 C19 C20 C21 C22) : Df P w K mg base "_law_is_under" 1 ["e"] (spUnder K HE) := by
  obtain ⟨f, fd, F, hm⟩ := W
  refine ⟨f, fd, F.ok sc_under (fun vs H Q E h => ?_) (fun cdv A outer s H vs Q E hr h => ?_), hm, F.kp, F.binds fun _ _ _ _ _ _ us hl => match us, hl with | [_], _ => rfl⟩
  · obtain ⟨a, C, up, rfl, _⟩ := h
    rfl
  · obtain ⟨a, C, up, rfl, hE, q⟩ := h
    refine ⟨_, (pss_cons (ps_if (PW.pt (pw_or (pt_not (pt_val (pe_callB (call_isX T.g) (by rfl) B.n_isinstance (by decide +kernel) (pa_cons (pv 0) (pa_cons (pe_glob (v := .ref HE) rfl T.mH rfl) pa_nil)))))
        (pw_or1 (pt_not (pt_val (pe_callB (call_isX T.g) (by rfl) B.n_isinstance (by decide +kernel) (pa_cons (pv 0) (pa_cons (pe_bltn (v := .ty "ValueError") (u := .type "ValueError") rfl L.1 (by decide +kernel) rfl) pa_nil))))))))
        (pss_one (ps_ret pe_bl)) pss_nil)
      (pss_one (ps_ret (pe_and (pe_not (pe_callB (call_isX T.g) (by rfl) B.n_isinstance (by decide +kernel) (pa_cons (pv 0) (pa_cons (pe_bltn (v := .ty "LookupError") (u := .type "LookupError") rfl L.2.1 (by decide +kernel) rfl) pa_nil))))
        (pe_one (pe_not (pe_callB (call_isXT T.g) (by rfl) B.n_isinstance (by decide +kernel) (pa_cons (pv 0) (pa_cons (pe_tup (pa_cons (pe_bltn (v := .ty "TypeError") (u := .type "TypeError") rfl L.2.2.1 (by decide +kernel) rfl)
          (pa_cons (pe_bltn (v := .ty "ArithmeticError") (u := .type "ArithmeticError") rfl L.2.2.2.1 (by decide +kernel) rfl) (pa_cons (pe_bltn (v := .ty "RuntimeError") (u := .type "RuntimeError") rfl L.2.2.2.2 (by decide +kernel) rfl) pa_nil)))) pa_nil))))))))), ?_⟩
    have k1 : PySem.W.kitOne K (.ref C) (.ref HE) = some true := by
      rw [hE.2.1.kit T.xH]
      rcases hE.2.2 with ⟨rfl, rfl⟩ | rfl <;> simp
    have k2 : PySem.W.kitOne K (.ref C) (.type "ValueError") = some true := by
      rw [hE.2.1.kitT (by decide +kernel)]
      rcases hE.2.2 with ⟨_, rfl⟩ | rfl <;> rfl
    have k3 : ∀ n : String, n ∈ ["LookupError", "TypeError", "ArithmeticError", "RuntimeError"] → PySem.W.kitOne K (.ref C) (.type n) = some false := by
      intro n hn
      have hmt : PySem.W.kitMeta n = true := by
        simp only [List.mem_cons, List.not_mem_nil, or_false] at hn
        rcases hn with rfl | rfl | rfl | rfl <;> decide +kernel
      rw [hE.2.1.kitT hmt]
      simp only [List.mem_cons, List.not_mem_nil, or_false] at hn
      rcases hE.2.2 with ⟨_, rfl⟩ | rfl <;> rcases hn with rfl | rfl | rfl | rfl <;> rfl
    refine ⟨_, rfl, a, C, up, _, .ref HE, _, rfl, hE.1, hE.2.1, hE.be, hE.ob, (fun u r => r), k1, true, rfl, ?_⟩
    refine iteF ⟨_, rfl, a, C, up, _, .type "ValueError", _, rfl, hE.1, hE.2.1, hE.be, hE.ob, (fun u r => r), k2, true, rfl, ?_⟩
    refine iteF ?_
    refine ⟨_, rfl, a, C, up, _, .type "LookupError", _, rfl, hE.1, hE.2.1, hE.be, hE.ob, (fun u r => r), k3 _ (by decide), false, rfl, true, rfl, ?_⟩
    refine iteT ⟨_, rfl, (by show 3 ≤ sizeLine; decide), fun t ht => ?_⟩
    have st : Same H (upd H t (.tup [.ty "TypeError", .ty "ArithmeticError", .ty "RuntimeError"])) := same_new ht
    have hE' := hE.mono st
    have ka : PySem.W.kitAny K (.ref C) (["TypeError", "ArithmeticError", "RuntimeError"].map Value.type) = some false := by
      simp only [List.map_cons, List.map_nil, PySem.W.kitAny, k3 "TypeError" (by decide), k3 "ArithmeticError" (by decide), k3 "RuntimeError" (by decide)]
    exact ⟨a, C, t, up, ["TypeError", "ArithmeticError", "RuntimeError"], false, rfl, hE'.1, hE.2.1, hE.be, hE.ob, upd_same, ka, false, rfl, q _ st⟩
end
end Vx
namespace Vx
open PySem PySem.Spec PyProof.Rows L2
section
variable {P : Program} {w : World} {K : PySem.W.Frag} {mg : Str → Option Value} {base : Heap}
theorem sc_pull : FnScope ["reel", "many", "digit", "seed"] ["reel", "many"] (defScope s__law_pull) := ⟨rfl, rfl, rfl, by decide +kernel, rfl, by decide +kernel, by decide +kernel⟩
theorem d_pull (W : FunIn K mg "_law_pull" s__law_pull) (T : Bls mg) : Df P w K mg base "_law_pull" 1 ["reel", "many"] spPull := by
  obtain ⟨f, fd, F, hm⟩ := W
  refine ⟨f, fd, F.ok sc_pull (fun vs H Q E h => ?_) (fun cdv A outer s H vs Q E hr h => ?_), hm, F.kp, F.binds fun _ _ _ _ _ _ us hl => match us, hl with | [_, _], _ => rfl⟩
  · obtain ⟨a, m, rfl, _⟩ := h
    rfl
  · obtain ⟨a, m, rfl, ⟨x, y, z, h0⟩, hm0, hm1, q⟩ := h
    have nd := sc_pull.nd
    refine ⟨_, (pss_cons (ps_if (pt_cmpR op_gt (pe_ix ix_list (pv 0) pe_int (fun _ _ => rfl)) pe_int (nomark _)) (pss_cons (ps_asg (pe_callB call_divmodW (by rfl) T.n_divmod (by decide +kernel) (pa_cons (pe_ix ix_list (pv 0) pe_int (fun _ _ => rfl)) (pa_cons (pv 1) pa_nil))) (pg_tup rfl (pgs_cons (pg_sub (pv 0) pe_int set_list) (pgs_cons (pg_name (i := 2) nd rfl (Or.inl rfl)) pgs_nil))))
        (pss_one (ps_ret (pv 2)))) pss_nil)
        (pss_cons (ps_asg (pe_op op_add (pe_ix ix_list (pv 0) pe_int (fun _ _ => rfl)) pe_int) (pg_sub (pv 0) pe_int set_list))
        (pss_cons (ps_set (i := 3) nd rfl (Or.inl rfl) (pe_op op_mod (pe_callTy call_int1 (by rfl) T.n_int (by decide +kernel) (pa_cons (pe_op op_add (pe_ix ix_list (pv 0) pe_int (fun _ _ => rfl)) (pe_op op_mul pe_int (pe_ix ix_list (pv 0) pe_int (fun _ _ => rfl)))) pa_nil)) pe_int))
        (pss_cons (ps_asg (pe_op op_mod (pe_callTy call_int1 (by rfl) T.n_int (by decide +kernel) (pa_cons (pe_op op_add (pe_op op_mul (pv 3) (pe_op op_add (pe_op op_mod (pe_callTy call_int1 (by rfl) T.n_int (by decide +kernel) (pa_cons (pv 3) pa_nil)) pe_int) pe_int)) (pe_op op_mul pe_int (pe_ix ix_list (pv 0) pe_int (fun _ _ => rfl)))) pa_nil)) pe_int) (pg_sub (pv 0) pe_int set_list))
        (pss_one (ps_ret (pe_op op_mod (pe_callTy call_int1 (by rfl) T.n_int (by decide +kernel) (pa_cons (pe_op op_fdiv (pe_ix ix_list (pv 0) pe_int (fun _ _ => rfl)) pe_int) pa_nil)) (pv 1)))))))), ?_⟩
    refine ⟨_, rfl, _, _, _, _, rfl, rfl, SqL.of h0, rfl, _, _, rfl, rfl, _, rfl, ?_⟩
    by_cases hx : (0 : Int) < x
    · rw [decide_eq_true hx]
      refine iteT ?_
      refine ⟨_, rfl, _, _, _, _, rfl, rfl, SqL.of h0, rfl, _, rfl, _, _, rfl, divp_small hm0 hm1, fun p hp => ?_⟩
      have na : a ≠ p := ne_of_none h0 hp
      have h1 : upd H p (.tup [.int (x / m), .int (x % m)]) a = some (.lst [.int x, .int y, .int z]) := by rw [upd_ne na]; exact h0
      refine ⟨_, _, rfl, SqT.of upd_same, rfl, _, _, rfl, ⟨_, rfl, _, _, _, _, rfl, rfl, h1, rfl, ?_⟩⟩
      refine ⟨_, _, rfl, ⟨rfl, ?_⟩⟩
      refine ⟨_, rfl, ?_⟩
      refine q _ _ (Int.emod_nonneg _ (by omega)) (Int.emod_lt_of_pos _ hm0) ⟨_, _, _, upd_same⟩ fun b o e nb => ?_
      rw [upd_ne nb, upd_ne (ne_of_none e hp)]
      exact e
    · rw [decide_eq_false hx]
      refine iteF ?_
      refine ⟨_, rfl, _, _, _, _, rfl, rfl, SqL.of h0, rfl, _, _, rfl, rfl, _, rfl, _, _, _, _, rfl, rfl, h0, rfl, ?_⟩
      have h1 : upd H a (.lst [.int x, .int y, .int (z + 1)]) a = some (.lst [.int x, .int y, .int (z + 1)]) := upd_same
      refine ⟨_, rfl, _, _, _, _, rfl, rfl, SqL.of h1, rfl, _, rfl, _, _, _, _, rfl, rfl, SqL.of h1, rfl, _, _, rfl, rfl, Or.inl (by constructor <;> omega), _, _, rfl, rfl, Or.inl ⟨_, rfl, _, _, rfl, rfl, (by show (0 : Int) < _; decide), ?_⟩⟩
      have s0 : (0 : Int) ≤ (y + 50021 * (z + 1)) % 2147483497 := Int.emod_nonneg _ (by decide)
      have s1 : (y + 50021 * (z + 1)) % 2147483497 < 2147483497 := Int.emod_lt_of_pos _ (by decide)
      refine ⟨_, rfl, _, rfl, Or.inl ⟨_, rfl, _, _, rfl, rfl, (by show (0 : Int) < _; decide), _, _, rfl, rfl, _, _, rfl, rfl, Or.inl (by constructor <;> omega), _, rfl, _, _, _, _, rfl, rfl, SqL.of h1, rfl, _, _, rfl, rfl, Or.inl (by constructor <;> omega), _, _, rfl, rfl, Or.inl ⟨_, rfl, _, _, rfl, rfl, (by show (0 : Int) < _; decide), _, rfl, _, _, _, _, rfl, rfl, h1, rfl, ?_⟩⟩⟩
      rw [upd_upd]
      refine ⟨_, rfl, _, _, _, _, rfl, rfl, SqL.of upd_same, rfl, _, _, rfl, rfl, (by constructor <;> omega), Or.inl ⟨_, rfl, _, rfl, _, _, rfl, rfl, hm0, ?_⟩⟩
      exact q _ _ (Int.emod_nonneg _ (by omega)) (Int.emod_lt_of_pos _ hm0) ⟨_, _, _, upd_same⟩ but_upd
theorem cut_map (ns : List Int) (lo hi : Option Int) : ∃ ms : List Int, cutV (ns.map V.int) lo hi = ms.map V.int ∧ ms.length ≤ ns.length := by
  refine ⟨(ns.drop (HT.sIx ns.length 0 lo)).take (HT.sIx ns.length ns.length hi - HT.sIx ns.length 0 lo), ?_, ?_⟩
  · unfold cutV
    rw [List.length_map, List.map_take, List.map_drop]
  · rw [List.length_take, List.length_drop]
    omega
/-- _law_reel: a new reel; nothing else has changed -/
def spReel (K : PySem.W.Frag) : Sp := fun vs H Q _ => ∃ (a : Addr) (ns : List Int) (t : Int), vs = [.ref a, .int t] ∧ SqL K H a (ns.map V.int) ∧ ns.length ≤ 63 ∧ 0 ≤ t ∧ t < 100 ∧
  ∀ (p : Addr) (H' : Hp), H p = none → RlAt p H' → Same H H' → Q (.ref p) H'
theorem sc_reel : FnScope ["script", "turn", "state", "cell", "own"] ["script", "turn"] (defScope s__law_reel) := ⟨rfl, rfl, rfl, by decide +kernel, rfl, by decide +kernel, by decide +kernel⟩
theorem d_reel (W : FunIn K mg "_law_reel" s__law_reel) (T : Bls mg) : Df P w K mg base "_law_reel" 1 ["script", "turn"] (spReel K) := by
  obtain ⟨f, fd, F, hm⟩ := W
  refine ⟨f, fd, F.ok sc_reel (fun vs H Q E h => ?_) (fun cdv A outer s H vs Q E hr h => ?_), hm, F.kp, F.binds fun _ _ _ _ _ _ us hl => match us, hl with | [_, _], _ => rfl⟩
  · obtain ⟨a, ns, t, rfl, _⟩ := h
    rfl
  · obtain ⟨a, ns, t, rfl, hS, hlen, t0, t1, q⟩ := h
    have nd := sc_reel.nd
    refine ⟨_, (pss_cons (ps_set (i := 2) nd rfl (Or.inl rfl) (pe_op op_add pe_int (pe_op op_mul pe_int (pv 1))))
        (pss_cons (ps_for PassesOwn.never rfl (pi_list (pe_slice sl_list (pv 0) po_none (po_some pe_int))) (pg_name (i := 3) nd rfl (Or.inl rfl)) (pss_one (ps_set (i := 2) nd rfl (Or.inl rfl) (pe_op op_mod (pe_callTy call_int1 (by rfl) T.n_int (by decide +kernel) (pa_cons (pe_op op_add (pe_op op_add (pe_op op_mul (pv 2) pe_int) (pe_op op_mod (pe_callTy call_int1 (by rfl) T.n_int (by decide +kernel) (pa_cons (pv 3) pa_nil)) pe_int)) pe_int) pa_nil)) pe_int))))
        (pss_cons (ps_set (i := 4) nd rfl (Or.inl rfl) (pe_ifExp (pt_cmpR op_lt (pv 1) (pe_callB call_len_seq (by rfl) T.n_len (by decide +kernel) (pa_cons (pv 0) pa_nil)) (nomark _)) (pe_callB call_abs (by rfl) T.n_abs (by decide +kernel) (pa_cons (pe_callTy call_int1 (by rfl) T.n_int (by decide +kernel) (pa_cons (pe_ix ix_list (pv 0) (pv 1) (fun _ _ => rfl)) pa_nil)) pa_nil)) pe_int))
        (pss_one (ps_ret (pe_lst (pa_cons (pe_ifExp (pt_cmpR op_ge (pv 4) (pe_op op_pow pe_int pe_int) (nomark _)) (pv 4) pe_int) (pa_cons (pe_op op_mod (pe_callTy call_int1 (by rfl) T.n_int (by decide +kernel) (pa_cons (pe_op op_add (pe_op op_mul (pv 2) pe_int) (pe_op op_mul (pe_op op_mod (pe_callTy call_int1 (by rfl) T.n_int (by decide +kernel) (pa_cons (pv 4) pa_nil)) pe_int) pe_int)) pa_nil)) pe_int) (pa_cons pe_int pa_nil))))))))), ?_⟩
    refine ⟨_, rfl, _, _, rfl, rfl, Or.inl (by constructor <;> omega), _, _, rfl, rfl, ?_⟩
    refine ⟨_, rfl, _, rfl, _, _, rfl, hS, fun c hc => ?_⟩
    obtain ⟨ms, em, lm⟩ := cut_map ns none (some 8)
    rw [em]
    have s0 : Same H (upd H c (.lst (ms.map V.int))) := same_new hc
    refine ⟨c, rfl, ⟨_, SqL.of upd_same⟩, for_list (K := K) (a := c) (xs := ms.map V.int) (fun i σ H2 => ∃ (x : Int) (v : Option V), σ = [some (.ref a), some (.int t), some (.int x), v, none] ∧ 0 ≤ x ∧ x < 2147483497 ∧ H2 = upd H c (.lst (ms.map V.int)))
      ⟨_, _, rfl, by omega, by omega, rfl⟩ (fun i σ H2 _ ⟨_, _, _, _, _, e⟩ => by rw [e]; exact SqL.of upd_same) ?_ ?_⟩
    · rintro i y σ H2 hi ⟨x, v, rfl, x0, x1, rfl⟩
      obtain ⟨n, _, rfl⟩ := List.mem_map.mp (List.mem_of_getElem? hi)
      refine ⟨_, rfl, _, _, rfl, rfl, Or.inl (by constructor <;> omega), _, rfl, Or.inl ⟨_, rfl, _, _, rfl, rfl, (by show (0 : Int) < _; decide), _, _, rfl, rfl, _, _, rfl, rfl, Or.inl ⟨_, rfl, _, _, rfl, rfl, (by show (0 : Int) < _; decide), ?_⟩⟩⟩
      exact ⟨_, _, rfl, Int.emod_nonneg _ (by decide), Int.emod_lt_of_pos _ (by decide), rfl⟩
    · rintro σ H2 ⟨x, v, rfl, x0, x1, rfl⟩
      have hS2 : SqL K (upd H c (.lst (ms.map V.int))) a (ns.map V.int) := s0.seq hS
      refine ⟨_, rfl, _, rfl, _, _, rfl, Or.inl hS2, _, _, rfl, rfl, _, rfl, ?_⟩
      rw [List.length_map]
      by_cases ht : t < (ns.length : Int)
      case' pos =>
        rw [decide_eq_true ht]
        refine iteT ?_
        have hn : t.toNat < ns.length := by omega
        refine ⟨_, rfl, _, rfl, _, _, _, _, rfl, rfl, hS2, at_of (j := t.toNat) (by omega) (by rw [List.getElem?_map, List.getElem?_eq_getElem hn]; rfl), Or.inl ⟨_, rfl, _, rfl, ?_⟩⟩
      case' neg =>
        rw [decide_eq_false ht]
        refine iteF ?_
      all_goals
        refine ⟨_, rfl, _, _, rfl, rfl, ⟨by decide, by decide, by decide⟩, _, _, rfl, rfl, _, rfl, ?_⟩
        refine ite2 (fun _ => ⟨_, rfl, ?_⟩) (fun _ => ?_)
        all_goals
          refine ⟨_, rfl, _, _, rfl, rfl, Or.inl (by constructor <;> omega), _, rfl, Or.inl ⟨_, rfl, _, _, rfl, rfl, (by show (0 : Int) < _; decide), _, _, rfl, rfl, Or.inr (by constructor <;> decide), _, _, rfl, rfl, Or.inl ⟨_, rfl, _, _, rfl, rfl, (by show (0 : Int) < _; decide), (by show 3 ≤ sizeLine; decide), fun p hp => ?_⟩⟩⟩
          exact q p _ (s0.free hp) ⟨_, _, _, upd_same⟩ (s0.trans (same_new hp))
theorem but_seq {a l : Addr} {H H' : Hp} {xs : List V} (e : But a H H') (n : l ≠ a) (h : SqL K H l xs) : SqL K H' l xs := by
  rcases h with (h | ⟨o, h⟩) | h
  · exact Or.inl (Or.inl (e _ _ h n))
  · exact Or.inl (Or.inr ⟨o, e _ _ h n⟩)
  · exact Or.inr h
/-- _law_one_of: some item of the list -/
def spOneOf (K : PySem.W.Frag) : Sp := fun vs H Q _ => ∃ (a l : Addr) (xs : List V), vs = [.ref a, .ref l] ∧ RlAt a H ∧ SqL K H l xs ∧ l ≠ a ∧ 0 < xs.length ∧ xs.length < 1000 ∧
  ∀ (v : V) (H' : Hp), v ∈ xs → RlAt a H' → But a H H' → Q v H'
theorem sc_one_of : FnScope ["reel", "some"] ["reel", "some"] (defScope s__law_one_of) := ⟨rfl, rfl, rfl, by decide +kernel, rfl, by decide +kernel, by decide +kernel⟩
theorem d_one_of (W : FunIn K mg "_law_one_of" s__law_one_of) (T : Bls mg) (D : Df P w K mg base "_law_pull" 1 ["reel", "many"] spPull) : Df P w K mg base "_law_one_of" 2 ["reel", "some"] (spOneOf K) := by
  obtain ⟨f, fd, F, hm⟩ := W
  refine ⟨f, fd, F.ok sc_one_of (fun vs H Q E h => ?_) (fun cdv A outer s H vs Q E hr h => ?_), hm, F.kp, F.binds fun _ _ _ _ _ _ us hl => match us, hl with | [_, _], _ => rfl⟩
  · obtain ⟨a, l, xs, rfl, _⟩ := h
    rfl
  · obtain ⟨a, l, xs, rfl, hR, hS, hne, l0, l1, q⟩ := h
    refine ⟨_, (pss_one (ps_ret (pe_ix ix_list (pv 1) (pe_d D (hr.mono (by decide)) rfl (pa_cons (pv 0) (pa_cons (pe_callB call_len_seq (by rfl) T.n_len (by decide +kernel) (pa_cons (pv 1) pa_nil)) pa_nil))) (fun _ _ => rfl)))), ?_⟩
    refine ⟨_, rfl, _, rfl, _, rfl, _, _, rfl, Or.inl hS, a, _, rfl, hR, by omega, by omega, fun d H' d0 d1 hR' hB => ?_⟩
    have hd : d.toNat < xs.length := by omega
    exact ⟨_, _, _, _, rfl, rfl, but_seq hB hne hS, at_of (j := d.toNat) (by omega) (List.getElem?_eq_getElem hd), q _ _ (List.getElem_mem hd) hR' hB⟩

end
end Vx
namespace Vx
open PySem PySem.Spec PyProof.Rows L2
/-- the heap without a -/
def hid (a : Addr) (H : Hp) : Hp := fun b => if b = a then none else H b
theorem hid_ne {a b : Addr} {H : Hp} (n : b ≠ a) : hid a H b = H b := if_neg n
theorem hid_of {a b : Addr} {H : Hp} {o : HO} (n : b ≠ a) (e : H b = some o) : hid a H b = some o := by rw [hid_ne n, e]
theorem hid_same {a : Addr} {H : Hp} : Same (hid a H) H := fun b o e => by
  by_cases h : b = a
  · rw [h] at e
    have z : hid a H a = none := if_pos rfl
    rw [z] at e
    cases e
  · rw [hid_ne h] at e
    exact e
theorem But.hid {a : Addr} {H H' : Hp} (s : But a H H') : Same (Vx.hid a H) (Vx.hid a H') := fun b o e => by
  have e' := hid_same b o e
  have n : b ≠ a := fun z => by
    rw [z] at e
    have q : Vx.hid a H a = none := if_pos rfl
    rw [q] at e
    cases e
  exact hid_of n (s b o e' n)
theorem Same.hid {a : Addr} {H H' : Hp} (s : Same H H') : Same (Vx.hid a H) (Vx.hid a H') := But.hid (same_but a s)
/-- a new object, with the heap behind it unnamed -/
theorem new_abs {H : Hp} {o : HO} {Q : VK} (h : ∀ p H', H p = none → Same H H' → H' p = some o → Q (.ref p) H') : ∀ p, H p = none → Q (.ref p) (upd H p o) :=
  fun p hp => h p _ hp (same_new hp) upd_same
theorem RlAt.ne {a p : Addr} {H : Hp} (r : RlAt a H) (h : H p = none) : p ≠ a := fun z => by
  obtain ⟨x, y, w, e⟩ := r
  rw [z, e] at h
  cases h
theorem RlAt.mono {a : Addr} {H H' : Hp} (r : RlAt a H) (s : Same H H') : RlAt a H' := let ⟨x, y, z, e⟩ := r; ⟨x, y, z, s _ _ e⟩
theorem rpa_mem {K : PySem.W.Frag} {H : Hp} : ∀ {vs : List V} {ds : List PyData} {v : V}, RpA K H vs ds → v ∈ vs → ∃ d ∈ ds, Rp K H v d
  | _, _, v, .nil, h => absurd h List.not_mem_nil
  | _, _, v, .cons r t, h => by
    rcases List.mem_cons.mp h with e | h
    · exact ⟨_, List.mem_cons_self, e ▸ r⟩
    · obtain ⟨d, hd, q⟩ := rpa_mem t h
      exact ⟨d, List.mem_cons_of_mem _ hd, q⟩
/-- d is small: its depth, its signs -/
def Sm (k c : Nat) (d : PyData) : Prop := d.showable = true ∧ d.depth ≤ k ∧ cost d ≤ c
theorem Sm.ok {k c : Nat} {d : PyData} (h : Sm k c d) (hk : k < 60) (hc : c ≤ 16000000) : Okd d := ⟨h.1, Nat.lt_of_le_of_lt h.2.1 hk, Nat.le_trans h.2.2 hc⟩
/-- _law_thing: something small that a repr shows; it is not the reel -/
def spThing (K : PySem.W.Frag) : Sp := fun vs H Q _ => ∃ a, vs = [.ref a] ∧ RlAt a H ∧
  ∀ v d H', Rp K (hid a H') v d → Sm 5 10000 d → RlAt a H' → But a H H' → Q v H'
def menuD : List PyData := [.none, .bool true, .bool false, .int 0, .int (-1), .int (10 ^ (40 : Int).toNat), .str "", .str "cart", .str "n/m", .tuple [], .tuple [.int 1, .int 2], .tuple [.tuple [.int 1, .int 1]],
  .list [], .list [.int 1, .list [.int 2]], .dict [], .dict [(.str "a", .tuple [.int 1, .int 1])]]
theorem menu_sm : ∀ d ∈ menuD, Sm 2 4000 d := by
  intro d hd
  simp only [menuD, List.mem_cons, List.not_mem_nil, or_false] at hd
  rcases hd with rfl | rfl | rfl | rfl | rfl | rfl | rfl | rfl | rfl | rfl | rfl | rfl | rfl | rfl | rfl | rfl <;> exact ⟨by decide +kernel, by decide +kernel, by decide +kernel⟩
/-- the values of the menu -/
def menuV (p1 p2 p4 p5 p7 p8 p10 : Addr) : List V := [.non, .bl true, .bl false, .int 0, .int (-1), .int (10 ^ (40 : Int).toNat), .str "", .str "cart", .str "n/m", .ref p1, .ref p2, .ref p4, .ref p5, .ref p7, .ref p8, .ref p10]
def wrapD (d : PyData) : List PyData := [.list [d], .tuple [d, .int 7], .tuple [.str "steady", d], .dict [(.str "k", d)]]
theorem wrap_sm {k c : Nat} {d : PyData} (h : Sm k c d) : ∀ e ∈ wrapD d, Sm (k + 1) (c + 2000) e := by
  intro e he
  obtain ⟨h1, h2, h3⟩ := h
  have t1 : (reprText "steady").length = 8 := by decide +kernel
  have t2 : (reprText "k").length = 3 := by decide +kernel
  have s7 : (7 : Int).natAbs.log2 < 1920 := by decide +kernel
  simp only [wrapD, List.mem_cons, List.not_mem_nil, or_false] at he
  rcases he with rfl | rfl | rfl | rfl <;> refine ⟨?_, ?_, ?_⟩ <;>
    simp only [PyData.showable, PyData.showableAll, PyData.showableKv, PyData.depth, PyData.depthAll, PyData.depthKv, cost, costs, costKv, h1, Bool.and_self, Bool.and_true, Bool.true_and, decide_eq_true s7, t1, t2] <;> omega
section
variable {P : Program} {w : World} {K : PySem.W.Frag} {mg : Str → Option Value} {base : Heap}
theorem sc_thing : FnScope ["reel", "some", "found", "turn"] ["reel"] (defScope s__law_thing) := ⟨rfl, rfl, rfl, by decide +kernel, rfl, by decide +kernel, by decide +kernel⟩
theorem d_thing (W : FunIn K mg "_law_thing" s__law_thing) (T : Bls mg) (D1 : Df P w K mg base "_law_one_of" 2 ["reel", "some"] (spOneOf K)) (D2 : Df P w K mg base "_law_pull" 1 ["reel", "many"] spPull) :
    Df P w K mg base "_law_thing" 3 ["reel"] (spThing K) := by
  obtain ⟨f, fd, F, hm⟩ := W
  refine ⟨f, fd, F.ok sc_thing (fun vs H Q E h => ?_) (fun cdv A outer s H vs Q E hr h => ?_), hm, F.kp, F.binds fun _ _ _ _ _ _ us hl => match us, hl with | [_], _ => rfl⟩
  · obtain ⟨a, rfl, _⟩ := h
    rfl
  · obtain ⟨a, rfl, hR, q⟩ := h
    have nd := sc_thing.nd
    refine ⟨_, (pss_cons (ps_set (i := 1) nd rfl (Or.inl rfl) (pe_lst (pa_cons pe_non (pa_cons pe_bl (pa_cons pe_bl (pa_cons pe_int (pa_cons (pe_un un_neg pe_int) (pa_cons (pe_op op_pow pe_int pe_int) (pa_cons pe_str (pa_cons pe_str (pa_cons pe_str (pa_cons (pe_tup pa_nil) (pa_cons (pe_tup (pa_cons pe_int (pa_cons pe_int pa_nil))) (pa_cons (pe_tup (pa_cons (pe_tup (pa_cons pe_int (pa_cons pe_int pa_nil))) pa_nil)) (pa_cons (pe_lst pa_nil) (pa_cons (pe_lst (pa_cons pe_int (pa_cons (pe_lst (pa_cons pe_int pa_nil)) pa_nil))) (pa_cons pe_dnewK pa_nil)))))))))))))))))
        (pss_cons (ps_set (i := 2) nd rfl (Or.inl rfl) (pe_d D1 (hr.mono (by decide)) rfl (pa_cons (pv 0) (pa_cons (pe_op op_cat (pv 1) (pe_lst (pa_cons (pe_disp (pps_cons pe_str (pe_tup (pa_cons pe_int (pa_cons pe_int pa_nil))) pps_nil) (by rfl) (by rfl) (fun z => by cases z) (by decide)) pa_nil))) pa_nil))))
        (pss_cons (ps_for PassesOwn.never rfl (pi_range1 rfl T.n_range (pa_cons (pe_d D2 (hr.mono (by decide)) rfl (pa_cons (pv 0) (pa_cons pe_int pa_nil))) pa_nil)) (pg_name (i := 3) nd rfl (Or.inl rfl)) (pss_one (ps_set (i := 2) nd rfl (Or.inl rfl) (pe_d D1 (hr.mono (by decide)) rfl (pa_cons (pv 0) (pa_cons (pe_lst (pa_cons (pe_lst (pa_cons (pv 2) pa_nil)) (pa_cons (pe_tup (pa_cons (pv 2) (pa_cons pe_int pa_nil))) (pa_cons (pe_tup (pa_cons pe_str (pa_cons (pv 2) pa_nil))) (pa_cons (pe_disp (pps_cons pe_str (pv 2) pps_nil) (by rfl) (by rfl) (fun z => by cases z) (by decide)) pa_nil))))) pa_nil))))))
        (pss_one (ps_ret (pv 2)))))), ?_⟩
    have cp : ∀ i j : Int, i = 10 → j = 40 → CPow i j := fun i j h1 h2 => by subst h1 h2; exact ⟨by decide, by decide, by decide⟩
    refine ⟨_, rfl, _, _, rfl, rfl, cp _ _ rfl rfl, ?_⟩
    -- (), (1, 2), (1, 1), ((1, 1),), [], [2], [1, [2]], {}
    refine ⟨(by show 0 ≤ sizeLine; decide), fun p1 n1 => ?_⟩
    have s1 := same_new (o := HO.tup []) n1
    have e1 : upd H p1 (.tup []) p1 = some (.tup []) := upd_same
    try dsimp only []
    generalize upd H p1 (.tup []) = H1 at s1 e1 ⊢
    refine ⟨(by show 2 ≤ sizeLine; decide), fun p2 n2 => ?_⟩
    have s2 := same_new (o := HO.tup [.int 1, .int 2]) n2
    have e2 : upd H1 p2 (.tup [.int 1, .int 2]) p2 = some (.tup [.int 1, .int 2]) := upd_same
    try dsimp only []
    generalize upd H1 p2 (.tup [.int 1, .int 2]) = H2 at s2 e2 ⊢
    refine ⟨(by show 2 ≤ sizeLine; decide), fun p3 n3 => ?_⟩
    have s3 := same_new (o := HO.tup [.int 1, .int 1]) n3
    have e3 : upd H2 p3 (.tup [.int 1, .int 1]) p3 = some (.tup [.int 1, .int 1]) := upd_same
    try dsimp only []
    generalize upd H2 p3 (.tup [.int 1, .int 1]) = H3 at s3 e3 ⊢
    refine ⟨(by show 1 ≤ sizeLine; decide), fun p4 n4 => ?_⟩
    have s4 := same_new (o := HO.tup [.ref p3]) n4
    have e4 : upd H3 p4 (.tup [.ref p3]) p4 = some (.tup [.ref p3]) := upd_same
    try dsimp only []
    generalize upd H3 p4 (.tup [.ref p3]) = H4 at s4 e4 ⊢
    refine ⟨(by show 0 ≤ sizeLine; decide), fun p5 n5 => ?_⟩
    have s5 := same_new (o := HO.lst []) n5
    have e5 : upd H4 p5 (.lst []) p5 = some (.lst []) := upd_same
    try dsimp only []
    generalize upd H4 p5 (.lst []) = H5 at s5 e5 ⊢
    refine ⟨(by show 1 ≤ sizeLine; decide), fun p6 n6 => ?_⟩
    have s6 := same_new (o := HO.lst [.int 2]) n6
    have e6 : upd H5 p6 (.lst [.int 2]) p6 = some (.lst [.int 2]) := upd_same
    try dsimp only []
    generalize upd H5 p6 (.lst [.int 2]) = H6 at s6 e6 ⊢
    refine ⟨(by show 2 ≤ sizeLine; decide), fun p7 n7 => ?_⟩
    have s7 := same_new (o := HO.lst [.int 1, .ref p6]) n7
    have e7 : upd H6 p7 (.lst [.int 1, .ref p6]) p7 = some (.lst [.int 1, .ref p6]) := upd_same
    try dsimp only []
    generalize upd H6 p7 (.lst [.int 1, .ref p6]) = H7 at s7 e7 ⊢
    refine fun p8 n8 => ?_
    have s8 := same_new (o := HO.dK []) n8
    have e8 : upd H7 p8 (.dK []) p8 = some (.dK []) := upd_same
    try dsimp only []
    generalize upd H7 p8 (.dK []) = H8 at s8 e8 ⊢
    refine ⟨(by show 15 ≤ sizeLine; decide), fun p9 n9 => ?_⟩
    have s9 := same_new (o := HO.lst [.non, .bl true, .bl false, .int 0, .int (-1), .int (10 ^ (40 : Int).toNat), .str "", .str "cart", .str "n/m", .ref p1, .ref p2, .ref p4, .ref p5, .ref p7, .ref p8]) n9
    have e9 : upd H8 p9 (.lst [.non, .bl true, .bl false, .int 0, .int (-1), .int (10 ^ (40 : Int).toNat), .str "", .str "cart", .str "n/m", .ref p1, .ref p2, .ref p4, .ref p5, .ref p7, .ref p8]) p9 = some (.lst [.non, .bl true, .bl false, .int 0, .int (-1), .int (10 ^ (40 : Int).toNat), .str "", .str "cart", .str "n/m", .ref p1, .ref p2, .ref p4, .ref p5, .ref p7, .ref p8]) := upd_same
    try dsimp only []
    generalize upd H8 p9 (.lst [.non, .bl true, .bl false, .int 0, .int (-1), .int (10 ^ (40 : Int).toNat), .str "", .str "cart", .str "n/m", .ref p1, .ref p2, .ref p4, .ref p5, .ref p7, .ref p8]) = H9 at s9 e9 ⊢
    -- some + [{'a': (1, 1)}]
    refine ⟨_, rfl, _, rfl, fun p10 n10 => ?_⟩
    have s10 := same_new (o := HO.dK []) n10
    have e10 : upd H9 p10 (.dK []) p10 = some (.dK []) := upd_same
    try dsimp only []
    generalize upd H9 p10 (.dK []) = H10 at s10 e10 ⊢
    refine ⟨(by show 2 ≤ sizeLine; decide), fun p11 n11 => ?_⟩
    have s11 := same_new (o := HO.tup [.int 1, .int 1]) n11
    have e11 : upd H10 p11 (.tup [.int 1, .int 1]) p11 = some (.tup [.int 1, .int 1]) := upd_same
    try dsimp only []
    generalize upd H10 p11 (.tup [.int 1, .int 1]) = H11 at s11 e11 ⊢
    refine ⟨s11 _ _ e10, [(Sum.inr "a", .ref p11)], rfl, (by show 1 ≤ 15; decide), ?_⟩
    have em : mergeK [] [((Sum.inr (Str.ofString "a") : Key), V.ref p11)] = [((Sum.inr (Str.ofString "a") : Key), V.ref p11)] := rfl
    rw [em]
    have s12 : Same H9 (upd H11 p10 (.dK [(Sum.inr "a", V.ref p11)])) := fun b o z => by
      rw [upd_ne (ne_of_none z n10)]
      exact s11 _ _ (s10 _ _ z)
    have e12 : upd H11 p10 (.dK [(Sum.inr "a", V.ref p11)]) p10 = some (.dK [(Sum.inr "a", V.ref p11)]) := upd_same
    have f11 : upd H11 p10 (.dK [(Sum.inr "a", V.ref p11)]) p11 = some (.tup [.int 1, .int 1]) := by
      rw [upd_ne (ne_of_none e10 n11).symm]
      exact e11
    generalize upd H11 p10 (.dK [(Sum.inr "a", V.ref p11)]) = H12 at s12 e12 f11 ⊢
    refine ⟨(by show 1 ≤ sizeLine; decide), fun p13 n13 => ?_⟩
    have s13 := same_new (o := HO.lst [.ref p10]) n13
    have e13 : upd H12 p13 (.lst [.ref p10]) p13 = some (.lst [.ref p10]) := upd_same
    try dsimp only []
    generalize upd H12 p13 (.lst [.ref p10]) = H13 at s13 e13 ⊢
    have t12 := s12.trans s13
    refine ⟨p9, p13, _, _, rfl, rfl, t12 _ _ e9, e13, (by show 16 ≤ sizeLine; decide), fun p14 n14 => ?_⟩
    have s14 := same_new (o := HO.lst (menuV p1 p2 p4 p5 p7 p8 p10)) n14
    have e14 : upd H13 p14 (.lst (menuV p1 p2 p4 p5 p7 p8 p10)) p14 = some (.lst (menuV p1 p2 p4 p5 p7 p8 p10)) := upd_same
    refine _root_.id (show tNil _ (upd H13 p14 (.lst (menuV p1 p2 p4 p5 p7 p8 p10))) _ from ?_)
    generalize upd H13 p14 (.lst (menuV p1 p2 p4 p5 p7 p8 p10)) = H14 at s14 e14 ⊢
    -- all that stands at the menu's time
    have t13 := s13.trans s14
    have t9 := s12.trans t13
    have t8 := s9.trans t9
    have t7 := s8.trans t8
    have t6 := s7.trans t7
    have t5 := s6.trans t6
    have t4 := s5.trans t5
    have t3 := s4.trans t4
    have t2 := s3.trans t3
    have t1 := s2.trans t2
    have t0 := s1.trans t1
    have hR14 := hR.mono t0
    have ne : ∀ {p : Addr} {Hx : Hp}, Same H Hx → Hx p = none → p ≠ a := fun hs hp => (hR.mono hs).ne hp
    have u1 := s1
    have u2 := u1.trans s2
    have u3 := u2.trans s3
    have u4 := u3.trans s4
    have u5 := u4.trans s5
    have u6 := u5.trans s6
    have u7 := u6.trans s7
    have u8 := u7.trans s8
    have u9 := u8.trans s9
    have u10 := u9.trans s10
    have g1 := hid_of (ne (Same.refl H) n1) (t1 _ _ e1)
    have g2 := hid_of (ne u1 n2) (t2 _ _ e2)
    have g3 := hid_of (ne u2 n3) (t3 _ _ e3)
    have g4 := hid_of (ne u3 n4) (t4 _ _ e4)
    have g5 := hid_of (ne u4 n5) (t5 _ _ e5)
    have g6 := hid_of (ne u5 n6) (t6 _ _ e6)
    have g7 := hid_of (ne u6 n7) (t7 _ _ e7)
    have g8 := hid_of (ne u7 n8) (t8 _ _ e8)
    have g10 := hid_of (ne u9 n10) (t13 _ _ e12)
    have g11 := hid_of (ne u10 n11) (t13 _ _ f11)
    have menu : RpA K (hid a H14) (menuV p1 p2 p4 p5 p7 p8 p10) menuD := by
      refine .cons .non (.cons (.bl _) (.cons (.bl _) (.cons (.int _) (.cons (.int _) (.cons (.int _) (.cons (.str _) (.cons (.str _) (.cons (.str _) ?_))))))))
      refine .cons (.tup (SqT.of g1) .nil) (.cons (.tup (SqT.of g2) (.cons (.int _) (.cons (.int _) .nil))) (.cons (.tup (SqT.of g4) (.cons (.tup (SqT.of g3) (.cons (.int _) (.cons (.int _) .nil))) .nil)) ?_))
      refine .cons (.lst (SqL.of g5) .nil) (.cons (.lst (SqL.of g7) (.cons (.int _) (.cons (.lst (SqL.of g6) (.cons (.int _) .nil)) .nil))) ?_)
      exact .cons (.dic (ds := []) g8 .nil) (.cons (.dic (ds := [.tuple [.int 1, .int 1]]) g10 (.cons (.tup (SqT.of g11) (.cons (.int _) (.cons (.int _) .nil))) .nil)) .nil)
    have np14 : p14 ≠ a := (hR.mono (s1.trans (s2.trans (s3.trans (s4.trans (s5.trans (s6.trans (s7.trans (s8.trans (s9.trans (s12.trans s13))))))))))).ne n14
    refine ⟨a, p14, _, rfl, hR14, SqL.of e14, np14, (by show 0 < 16; decide), (by show 16 < 1000; decide), fun v0 H15 hv hR15 hB15 => ?_⟩
    obtain ⟨d0, hd0, r0⟩ := rpa_mem menu hv
    have b15 : But a H H15 := but_trans (same_but a t0) hB15
    refine ⟨_, rfl, a, 4, rfl, hR15, by decide, by decide, fun n H16 n0 n4' hR16 hB16 => ?_⟩
    refine ⟨n, rfl, by omega, by omega, for_range (n := n.toNat) (fun i σ H2 => ∃ (v : V) (d : PyData) (t : Option V), σ = [some (.ref a), some (.ref p9), some v, t] ∧ Rp K (hid a H2) v d ∧ Sm (2 + i) (4000 + i * 2000) d ∧ RlAt a H2 ∧ But a H H2)
      ⟨v0, d0, none, rfl, (r0.mono (But.hid hB15)).mono (But.hid hB16), menu_sm d0 hd0, hR16, but_trans b15 hB16⟩ ?_ ?_⟩
    · rintro i σ H2 hi ⟨v, d, t, rfl, r, sm, hR2, hB2⟩
      refine ⟨_, rfl, _, rfl, (by show 1 ≤ sizeLine; decide), fun q1 m1 => ?_⟩
      have z1 := same_new (o := HO.lst [v]) m1
      have y1 : upd H2 q1 (.lst [v]) q1 = some (.lst [v]) := upd_same
      try dsimp only []
      generalize upd H2 q1 (.lst [v]) = G1 at z1 y1 ⊢
      refine ⟨_, rfl, (by show 2 ≤ sizeLine; decide), fun q2 m2 => ?_⟩
      have z2 := same_new (o := HO.tup [v, .int 7]) m2
      have y2 : upd G1 q2 (.tup [v, .int 7]) q2 = some (.tup [v, .int 7]) := upd_same
      try dsimp only []
      generalize upd G1 q2 (.tup [v, .int 7]) = G2 at z2 y2 ⊢
      refine ⟨_, rfl, (by show 2 ≤ sizeLine; decide), fun q3 m3 => ?_⟩
      have z3 := same_new (o := HO.tup [.str "steady", v]) m3
      have y3 : upd G2 q3 (.tup [.str "steady", v]) q3 = some (.tup [.str "steady", v]) := upd_same
      try dsimp only []
      generalize upd G2 q3 (.tup [.str "steady", v]) = G3 at z3 y3 ⊢
      refine fun q4 m4 => ⟨_, rfl, upd_same, [(Sum.inr (Str.ofString "k"), v)], rfl, (by show 1 ≤ 15; decide), ?_⟩
      have em2 : mergeK [] [((Sum.inr (Str.ofString "k") : Key), v)] = [((Sum.inr (Str.ofString "k") : Key), v)] := rfl
      rw [em2, upd_upd]
      have z4 := same_new (o := HO.dK [(Sum.inr (Str.ofString "k"), v)]) m4
      have y4 : upd G3 q4 (.dK [(Sum.inr (Str.ofString "k"), v)]) q4 = some (.dK [(Sum.inr (Str.ofString "k"), v)]) := upd_same
      try dsimp only []
      generalize upd G3 q4 (.dK [(Sum.inr (Str.ofString "k"), v)]) = G4 at z4 y4 ⊢
      refine ⟨(by show 4 ≤ sizeLine; decide), fun q5 m5 => ?_⟩
      have z5 := same_new (o := HO.lst [.ref q1, .ref q2, .ref q3, .ref q4]) m5
      have y5 : upd G4 q5 (.lst [.ref q1, .ref q2, .ref q3, .ref q4]) q5 = some (.lst [.ref q1, .ref q2, .ref q3, .ref q4]) := upd_same
      try dsimp only []
      generalize upd G4 q5 (.lst [.ref q1, .ref q2, .ref q3, .ref q4]) = G5 at z5 y5 ⊢
      have w1 := z1
      have w2 := w1.trans z2
      have w3 := w2.trans z3
      have w4 := w3.trans z4
      have w5 := w4.trans z5
      have x4 := z5
      have x3 := z4.trans x4
      have x2 := z3.trans x3
      have x1 := z2.trans x2
      have hR5 := hR2.mono w5
      have k1 := hid_of (hR2.ne m1) (x1 _ _ y1)
      have k2 := hid_of ((hR2.mono w1).ne m2) (x2 _ _ y2)
      have k3 := hid_of ((hR2.mono w2).ne m3) (x3 _ _ y3)
      have k4 := hid_of ((hR2.mono w3).ne m4) (x4 _ _ y4)
      have rv := r.mono (Same.hid (a := a) w5)
      have wr : RpA K (hid a G5) [.ref q1, .ref q2, .ref q3, .ref q4] (wrapD d) :=
        .cons (.lst (SqL.of k1) (.cons rv .nil)) (.cons (.tup (SqT.of k2) (.cons rv (.cons (.int _) .nil))) (.cons (.tup (SqT.of k3) (.cons (.str _) (.cons rv .nil))) (.cons (.dic (ds := [d]) k4 (.cons rv .nil)) .nil)))
      refine ⟨a, q5, _, rfl, hR5, SqL.of y5, (hR2.mono w4).ne m5, (by show 0 < 4; decide), (by show 4 < 1000; decide), fun v' G6 hv' hR6 hB6 => ?_⟩
      obtain ⟨d', hd', r'⟩ := rpa_mem wr hv'
      have sm' := wrap_sm sm d' hd'
      exact ⟨v', d', _, rfl, r'.mono (But.hid hB6), ⟨sm'.1, by have := sm'.2.1; omega, by have := sm'.2.2; omega⟩, hR6, but_trans (but_trans hB2 (same_but a w5)) hB6⟩
    · rintro σ H2 ⟨v, d, t, rfl, r, sm, hR2, hB2⟩
      exact ⟨_, rfl, q v d H2 r ⟨sm.1, by have := sm.2.1; omega, by have := sm.2.2; omega⟩ hR2 hB2⟩
end
end Vx
namespace Vx
open PySem PySem.Spec PyProof.Rows L2
theorem kinds_eq {HE C : Addr} {Cs : List Addr} {j : Nat} (nd : (HE :: Cs).Nodup) (h : Cs[j]? = some C) :
    kinds Cs C (.ref HE :: veUp) = (List.range Cs.length).map fun n => decide (n = j) := by
  have nc : ∀ D : Addr, (Value.ref C :: Value.ref HE :: veUp).contains (.ref D) = (decide (D = C) || decide (D = HE)) := by
    intro D
    have e : veUp.contains (Value.ref D) = false := rfl
    rw [List.contains_cons, List.contains_cons, e, Bool.or_false]
    congr 1 <;> (rw [Bool.eq_iff_iff]; simp)
  obtain ⟨hH, hN⟩ := List.nodup_cons.mp nd
  obtain ⟨hj, ej⟩ := List.getElem?_eq_some_iff.mp h
  refine List.ext_getElem (by simp [kinds]) fun n h1 h2 => ?_
  have hn : n < Cs.length := by simpa [kinds] using h1
  simp only [kinds, List.getElem_map, List.getElem_range]
  rw [nc, Bool.eq_iff_iff]
  simp only [Bool.or_eq_true, decide_eq_true_eq]
  constructor
  · rintro (e | e)
    · exact (List.getElem_inj hN).mp (e.trans ej.symm)
    · exact absurd (e ▸ List.getElem_mem hn) hH
  · rintro rfl
    exact Or.inl ej
section
variable {P : Program} {w : World} {K : PySem.W.Frag} {mg : Str → Option Value} {base : Heap} {HE C0 C1 C2 C3 C4 C5 C6 C7 C8 C9 C10 C11 C12 C13 C14 C15 C16 C17 C18 C19 C20 C21 C22 : Addr}
theorem KF.all (T : KF K mg HE C0 C1 C2 C3 C4 C5 C6 C7 C8 C9 C10 C11 C12 C13 C14 C15 C16 C17 C18 C19 C20 C21 C22) : ∀ C ∈ [C0, C1, C2, C3, C4, C5, C6, C7, C8, C9, C10, C11, C12, C13, C14, C15, C16, C17, C18, C19, C20, C21, C22], Xc K C (.ref HE :: veUp) := by
  intro C hC
  simp only [List.mem_cons, List.not_mem_nil, or_false] at hC
  rcases hC with rfl | rfl | rfl | rfl | rfl | rfl | rfl | rfl | rfl | rfl | rfl | rfl | rfl | rfl | rfl | rfl | rfl | rfl | rfl | rfl | rfl | rfl | rfl
  · exact T.x0
  · exact T.x1
  · exact T.x2
  · exact T.x3
  · exact T.x4
  · exact T.x5
  · exact T.x6
  · exact T.x7
  · exact T.x8
  · exact T.x9
  · exact T.x10
  · exact T.x11
  · exact T.x12
  · exact T.x13
  · exact T.x14
  · exact T.x15
  · exact T.x16
  · exact T.x17
  · exact T.x18
  · exact T.x19
  · exact T.x20
  · exact T.x21
  · exact T.x22
/-- _law_stand: the errors, one behind another, are of the classes from the place j on -/
def spStand (K : PySem.W.Frag) (Cs : List Addr) : Sp := fun vs H Q _ => ∃ (l : Addr) (es : List Addr) (j : Nat), vs = [.ref l, .int j] ∧ SqL K H l (es.map V.ref) ∧ es.length ≤ 30 ∧ j ≤ 30 ∧
  (∀ (i : Nat) (e : Addr), es[i]? = some e → ∃ C, Cs[j + i]? = some C ∧ IsEx H e C) ∧ ∀ H', Same H H' → Q (.bl true) H'
theorem sc_stand : FnScope ["errors", "start", "k", "due", "number"] ["errors", "start"] (defScope s__law_stand) := ⟨rfl, rfl, rfl, by decide +kernel, rfl, by decide +kernel, by decide +kernel⟩
theorem d_stand (W : FunIn K mg "_law_stand" s__law_stand) (B : Bls mg) (T : KF K mg HE C0 C1 C2 C3 C4 C5 C6 C7 C8 C9 C10 C11 C12 C13 C14 C15 C16 C17 C18 C19 C20 C21 C22) (sy : Sys base) (D1 : Df P w K mg base "_law_kinds" 1 ["e"] (spKinds K HE [C0, C1, C2, C3, C4, C5, C6, C7, C8, C9, C10, C11, C12, C13, C14, C15, C16, C17, C18, C19, C20, C21, C22])) (D2 : Df P w K mg base "_law_is_under" 1 ["e"] (spUnder K HE)) :
    Dg P w K mg base "_law_stand" 3 ["errors", "start"] (spStand K [C0, C1, C2, C3, C4, C5, C6, C7, C8, C9, C10, C11, C12, C13, C14, C15, C16, C17, C18, C19, C20, C21, C22]) := by
  have hall := T.all
  have hnd : (HE :: [C0, C1, C2, C3, C4, C5, C6, C7, C8, C9, C10, C11, C12, C13, C14, C15, C16, C17, C18, C19, C20, C21, C22]).Nodup := T.nd
  have hlen : ([C0, C1, C2, C3, C4, C5, C6, C7, C8, C9, C10, C11, C12, C13, C14, C15, C16, C17, C18, C19, C20, C21, C22] : List Addr).length = 23 := rfl
  generalize [C0, C1, C2, C3, C4, C5, C6, C7, C8, C9, C10, C11, C12, C13, C14, C15, C16, C17, C18, C19, C20, C21, C22] = Cs at hall hnd hlen D1 ⊢
  obtain ⟨f, fd, F, hm⟩ := W
  refine ⟨f, fd, gok F sc_stand (fun vs H Q E h => ?_) (fun cdv A outer s H vs Q E ng hr h => ?_), hm, F.kp, F.binds fun _ _ _ _ _ _ us hl => match us, hl with | [_, _], _ => rfl⟩
  · obtain ⟨l, es, j, rfl, _⟩ := h
    rfl
  · obtain ⟨l, es, j, rfl, hS, le, lj, hes, q⟩ := h
    have nd := sc_stand.nd
    refine ⟨_, (pss_cons (ps_for PassesOwn.never rfl (pi_range1 rfl B.n_range (pa_cons (pe_callB call_len_seq (by rfl) B.n_len (by decide +kernel) (pa_cons (pv 0) pa_nil)) pa_nil)) (pg_name (i := 2) nd rfl (Or.inr rfl)) (pss_cons (ps_setLc (i := 3) (own := [("number", 4)]) rfl nd rfl rfl (sw_true rfl rfl rfl (by decide +kernel)) (pi_range1 rfl B.n_range (pa_cons pe_int pa_nil)) (blkOk_by (own := [("number", 4)]) (N := ["errors", "start", "k", "due", "number"]) (sc := defScope s__law_stand) (by decide +kernel)) (fun _ _ _ _ _ => (pg_name (i := 4) nd rfl (Or.inl rfl))) (fun _ _ _ _ _ => pts_nil) (fun _ _ _ _ _ => (pe_cmpR op_eq (pv 4) (pe_op op_add (pv 1) (pv 2)) (nomark _))))
        (pss_one (ps_if (PW.pt (pw_or (pt_cmpR op_ne (pe_callB (call_repr sy ng (hu64 hr)) (by rfl) B.n_repr (by decide +kernel) (pa_cons (pe_d D1 (hr.mono (by decide)) rfl (pa_cons (pe_ix ix_list (pv 0) (pv 2) (fun _ _ => rfl)) pa_nil)) pa_nil)) (pe_callB (call_repr sy ng (hu64 hr)) (by rfl) B.n_repr (by decide +kernel) (pa_cons (pv 3) pa_nil)) (nomark _)) (pw_or1 (pt_not (pt_val (pe_d D2 (hr.mono (by decide)) rfl (pa_cons (pe_ix ix_list (pv 0) (pv 2) (fun _ _ => rfl)) pa_nil))))))) (pss_one (ps_ret pe_bl)) pss_nil))))
        (pss_one (ps_ret pe_bl))), ?_⟩
    refine ⟨_, rfl, _, _, rfl, Or.inl hS, (es.length : Int), (by rw [List.length_map]), by omega, by omega, for_range (n := es.length) (fun i σ H2 => ∃ t u, σ = [some (.ref l), some (.int j), t, u, none] ∧ Same H H2) ⟨_, _, rfl, Same.refl H⟩ ?_ ?_⟩
    · rintro i σ H2 hi ⟨t, u, rfl, s2⟩
      obtain ⟨C, hC, hX⟩ := hes i es[i] (List.getElem?_eq_getElem hi)
      have hE : Err K HE H2 es[i] C (.ref HE :: veUp) := ⟨hX.mono s2, hall C (List.mem_of_getElem? hC), Or.inr rfl⟩
      refine ⟨23, rfl, by decide, by decide, fun D hD => lc_range (n := 23) (fun n H3 => H3 = upd H2 D (.lst (((List.range n).map fun (m : Nat) => decide (V.int (0 + (m : Int)) = V.int ((j : Int) + (0 + (i : Int))))).map V.bl))) rfl ?_ ?_⟩
      · rintro n H3 hn rfl
        refine ⟨rfl, ?_⟩
        unfold tYes
        dsimp only []
        rw [if_pos rfl]
        refine ⟨_, rfl, _, rfl, _, rfl, _, _, rfl, rfl, rfl, _, upd_same, ?_, ?_⟩
        · rw [List.length_map, List.length_map, List.length_range, sizeLine_eq]
          omega
        · rw [upd_upd, List.range_succ, List.map_append, List.map_append]
          rfl
      · rintro H3 rfl
        have hk := kinds_eq hnd hC
        rw [hlen] at hk
        have hb : ((List.range 23).map fun (m : Nat) => decide (V.int (0 + (m : Int)) = V.int ((j : Int) + (0 + (i : Int))))) = kinds Cs C (.ref HE :: veUp) := by
          rw [hk]
          refine List.map_congr_left fun m _ => ?_
          rw [Bool.eq_iff_iff]
          simp only [decide_eq_true_eq]
          constructor
          · intro e
            have e' := V.int.inj e
            omega
          · rintro rfl
            congr 1
            omega
        have s3 : Same H2 (upd H2 D (.lst ((kinds Cs C (.ref HE :: veUp)).map V.bl))) := same_new hD
        rw [hb]
        have e3 : upd H2 D (.lst ((kinds Cs C (.ref HE :: veUp)).map V.bl)) D = some (.lst ((kinds Cs C (.ref HE :: veUp)).map V.bl)) := upd_same
        generalize upd H2 D (.lst ((kinds Cs C (.ref HE :: veUp)).map V.bl)) = H3 at s3 e3 ⊢
        have hS3 : SqL K H3 l (es.map V.ref) := (s2.trans s3).seq hS
        have hat : atI (es.map V.ref) (0 + (i : Int)) = some (V.ref es[i]) := at_of (j := i) (by omega) (by rw [List.getElem?_map, List.getElem?_eq_getElem hi]; rfl)
        have okd : Okd (.list ((kinds Cs C (.ref HE :: veUp)).map PyData.bool)) := okd_bls _ (by rw [hk]; simp)
        refine ⟨_, rfl, _, rfl, _, _, _, _, rfl, rfl, hS3, hat, es[i], C, _, rfl, hE.mono s3, fun p H4 s4 e4 => ?_⟩
        refine ⟨p, _, rfl, .lst (SqL.of e4) (rpa_bls _), okd.1, okd.2.1, okd.fits, ?_⟩
        refine ⟨_, rfl, D, _, rfl, .lst (SqL.of (s4 _ _ e3)) (rpa_bls _), okd.1, okd.2.1, okd.fits, rfl, _, rfl, ?_⟩
        refine iteNS rfl ?_
        refine ⟨_, rfl, _, rfl, _, _, _, _, rfl, rfl, s4.seq hS3, hat, es[i], C, _, rfl, (hE.mono s3).mono s4, fun H5 s5 => ⟨true, rfl, ?_⟩⟩
        refine iteF ?_
        exact ⟨_, _, rfl, ((s2.trans s3).trans s4).trans s5⟩
    · rintro σ H2 ⟨t, u, rfl, s2⟩
      exact q H2 s2
end
end Vx
namespace Vx
open PySem PySem.Spec PyProof.Rows L2
/-- e.f within a comprehension -/
theorem pe_xaK {X : Cx} {K : PySem.W.Frag} {e : Expr} {te : TE} {pos : Pos} {f : Str} (hK : X.K = K) (he : PE X e te) (hb : attributeBase e f X.env (eval e X.env) = eval e X.env := by rfl) : PE X (.Attribute e f pos) (tXa K f te) := by
  subst hK
  exact pe_xa he hb
theorem rpa_rep {K : PySem.W.Frag} {H : Hp} {v : V} {d : PyData} (r : Rp K H v d) : ∀ n : Nat, RpA K H (List.replicate n v) (List.replicate n d)
  | 0 => .nil
  | n + 1 => .cons r (rpa_rep r n)
theorem okd_rep {k c : Nat} {d : PyData} (h : Sm k c d) (n : Nat) (hk : k < 50) (hc : n * (c + 2) + 2 ≤ 16000000) : Okd (.list (List.replicate n d)) := by
  have h1 : ∀ n : Nat, PyData.showableAll (List.replicate n d) = true := by
    intro n
    induction n with
    | zero => rfl
    | succ n ih =>
      rw [List.replicate_succ]
      simp only [PyData.showableAll, h.1, ih, Bool.and_self]
  have h2 : ∀ n : Nat, costs (List.replicate n d) ≤ n * (c + 2) := by
    intro n
    induction n with
    | zero => exact Nat.zero_le _
    | succ n ih =>
      rw [List.replicate_succ, Nat.succ_mul]
      show cost d + 2 + costs (List.replicate n d) ≤ _
      have := h.2.2
      omega
  have h3 : ∀ n : Nat, PyData.depthAll (List.replicate n d) ≤ k := by
    intro n
    induction n with
    | zero => exact Nat.zero_le _
    | succ n ih =>
      rw [List.replicate_succ]
      simp only [PyData.depthAll]
      have := h.2.1
      omega
  refine ⟨by simpa only [PyData.showable] using h1 n, ?_, ?_⟩
  · have := h3 n
    simp only [PyData.depth]
    omega
  · have := h2 n
    show costs (List.replicate n d) + 2 ≤ _
    omega
theorem AllX.at {H : Hp} {f : Str} {v : V} : ∀ {es Cs : List Addr} {i : Nat} {e : Addr}, AllX H f v es Cs → es[i]? = some e → ∃ C, C ∈ Cs ∧ ExA H e C f v
  | [], [], i, e, _, h => by simp at h
  | a :: es, C :: Cs, 0, e, h, z => by
    have z' : a = e := by simpa using z
    exact ⟨C, List.mem_cons_self, z' ▸ h.1⟩
  | a :: es, C :: Cs, i + 1, e, h, z => by
    obtain ⟨D, e1, e2⟩ := AllX.at (i := i) h.2 (by simpa using z)
    exact ⟨D, List.mem_cons_of_mem _ e1, e2⟩
  | [], _ :: _, _, _, h, _ => h.elim
  | _ :: _, [], _, _, h, _ => h.elim
theorem AllX.mono {H H' : Hp} {f : Str} {v : V} (s : Same H H') : ∀ {es Cs : List Addr}, AllX H f v es Cs → AllX H' f v es Cs
  | [], [], _ => trivial
  | _ :: _, _ :: _, h => ⟨h.1.mono s, AllX.mono s h.2⟩
  | [], _ :: _, h => h.elim
  | _ :: _, [], h => h.elim
theorem place {H : Hp} {es pre mid post : List Addr} (h : AllI H es mid) : ∀ (i : Nat) (e : Addr), es[i]? = some e → ∃ C, (pre ++ mid ++ post)[pre.length + i]? = some C ∧ IsEx H e C := by
  intro i e he
  obtain ⟨C, hC, hx⟩ := h.at he
  refine ⟨C, ?_, hx⟩
  obtain ⟨hi, _⟩ := List.getElem?_eq_some_iff.mp hC
  rw [List.append_assoc, List.getElem?_append_right (Nat.le_add_right _ _), Nat.add_sub_cancel_left, List.getElem?_append_left hi, hC]
/-- [e.f for e in es] makes as many values as there are errors -/
theorem attr_turn {K : PySem.W.Frag} {H : Hp} {D : Addr} {f : Str} {v : V} {es Cs : List Addr} {i : Nat} (hx : AllX H f v es Cs) (hC : ∀ C ∈ Cs, ∃ up, Xc K C up ∧ up.contains (.type "BaseException") = true ∧ PySem.W.findIn K (.ref C) f = some none)
    (hD : H D = none) (hi : i < es.length) (hl : es.length ≤ 1000) : ∃ (a C : Addr) (up : List Value) (w : V), V.ref es[i] = .ref a ∧ Xc K C up ∧ up.contains (.type "BaseException") = true ∧ PySem.W.findIn K (.ref C) f = some none ∧
      ExA (upd H D (.lst (List.replicate i v))) a C f w ∧ ∃ acc, upd H D (.lst (List.replicate i v)) D = some (.lst acc) ∧ acc.length < sizeLine ∧ upd (upd H D (.lst (List.replicate i v))) D (.lst (acc ++ [w])) = upd H D (.lst (List.replicate (i + 1) v)) := by
  obtain ⟨C, hm, hE⟩ := hx.at (List.getElem?_eq_getElem hi)
  obtain ⟨up, T, hb, hn⟩ := hC C hm
  refine ⟨_, C, up, v, rfl, T, hb, hn, hE.mono (same_new hD), _, upd_same, ?_, ?_⟩
  · rw [List.length_replicate, sizeLine_eq]
    omega
  · rw [upd_upd, List.replicate_succ']
section
variable {P : Program} {w : World} {K : PySem.W.Frag} {mg : Str → Option Value} {base : Heap} {HE C0 C1 C2 C3 C4 C5 C6 C7 C8 C9 C10 C11 C12 C13 C14 C15 C16 C17 C18 C19 C20 C21 C22 : Addr}
theorem KF.noG (T : KF K mg HE C0 C1 C2 C3 C4 C5 C6 C7 C8 C9 C10 C11 C12 C13 C14 C15 C16 C17 C18 C19 C20 C21 C22) : ∀ C ∈ [C0, C1, C2, C3, C4, C5, C6, C7, C8, C9, C10, C11, C12, C13, C14], ∃ up, Xc K C up ∧ up.contains (.type "BaseException") = true ∧ PySem.W.findIn K (.ref C) "given" = some none := by
  intro C hC
  simp only [List.mem_cons, List.not_mem_nil, or_false] at hC
  rcases hC with rfl | rfl | rfl | rfl | rfl | rfl | rfl | rfl | rfl | rfl | rfl | rfl | rfl | rfl | rfl
  · exact ⟨_, T.x0, up_be, T.i0.no⟩
  · exact ⟨_, T.x1, up_be, T.i1.no⟩
  · exact ⟨_, T.x2, up_be, T.i2.no⟩
  · exact ⟨_, T.x3, up_be, T.i3.no⟩
  · exact ⟨_, T.x4, up_be, T.i4.no⟩
  · exact ⟨_, T.x5, up_be, T.i5.no⟩
  · exact ⟨_, T.x6, up_be, T.i6.no⟩
  · exact ⟨_, T.x7, up_be, T.i7.no⟩
  · exact ⟨_, T.x8, up_be, T.i8.no⟩
  · exact ⟨_, T.x9, up_be, T.i9.no⟩
  · exact ⟨_, T.x10, up_be, T.i10.no⟩
  · exact ⟨_, T.x11, up_be, T.i11.no⟩
  · exact ⟨_, T.x12, up_be, T.i12.no⟩
  · exact ⟨_, T.x13, up_be, T.i13.no⟩
  · exact ⟨_, T.x14, up_be, T.i14.no⟩
theorem KF.noI (T : KF K mg HE C0 C1 C2 C3 C4 C5 C6 C7 C8 C9 C10 C11 C12 C13 C14 C15 C16 C17 C18 C19 C20 C21 C22) : ∀ C ∈ [C15, C16, C17], ∃ up, Xc K C up ∧ up.contains (.type "BaseException") = true ∧ PySem.W.findIn K (.ref C) "index" = some none := by
  intro C hC
  simp only [List.mem_cons, List.not_mem_nil, or_false] at hC
  rcases hC with rfl | rfl | rfl
  · exact ⟨_, T.x15, up_be, T.i15.no⟩
  · exact ⟨_, T.x16, up_be, T.i16.no⟩
  · exact ⟨_, T.x17, up_be, T.i17.no⟩
/-- _law_right tells True -/
def spRight : Sp := fun vs H Q _ => ∃ a, vs = [.ref a] ∧ RlAt a H ∧ ∀ H', But a H H' → Q (.bl true) H'
theorem sc_right : FnScope ["reel", "thing", "other", "first", "second", "third", "fourth", "e", "base"] ["reel"] (defScope s__law_right) := ⟨rfl, rfl, rfl, by decide +kernel, rfl, by decide +kernel, by decide +kernel⟩
theorem d_right (W : FunIn K mg "_law_right" s__law_right) (B : Bls mg) (T : KF K mg HE C0 C1 C2 C3 C4 C5 C6 C7 C8 C9 C10 C11 C12 C13 C14 C15 C16 C17 C18 C19 C20 C21 C22) (sy : Sys base) (D_law_thing : Df P w K mg base "_law_thing" 3 ["reel"] (spThing K))
    (D_law_with_given : Df P w K mg base "_law_with_given" 3 ["thing"] (spMk [C0, C1, C2, C3, C4, C5, C6, C7, C8, C9, C10, C11, C12, C13, C14] "given")) (D_law_with_given_named : Df P w K mg base "_law_with_given_named" 3 ["thing"] (spMk [C0, C1, C2, C3, C4, C5, C6, C7, C8, C9, C10, C11, C12, C13, C14] "given"))
    (D_law_with_index : Df P w K mg base "_law_with_index" 3 ["thing"] (spMk [C15, C16, C17] "index")) (D_law_with_index_named : Df P w K mg base "_law_with_index_named" 3 ["thing"] (spMk [C15, C16, C17] "index"))
    (D_law_bare : Df P w K mg base "_law_bare" 1 [] (spBare [C18, C19, C20, C21, C22])) (D_law_kinds : Df P w K mg base "_law_kinds" 1 ["e"] (spKinds K HE [C0, C1, C2, C3, C4, C5, C6, C7, C8, C9, C10, C11, C12, C13, C14, C15, C16, C17, C18, C19, C20, C21, C22])) (D_law_is_under : Df P w K mg base "_law_is_under" 1 ["e"] (spUnder K HE))
    (D_law_stand : Dg P w K mg base "_law_stand" 3 ["errors", "start"] (spStand K [C0, C1, C2, C3, C4, C5, C6, C7, C8, C9, C10, C11, C12, C13, C14, C15, C16, C17, C18, C19, C20, C21, C22])) : Dg P w K mg base "_law_right" 4 ["reel"] spRight := by
  have noG := T.noG
  have noI := T.noI
  have hnd := T.nd
  have c0 : [C0, C1, C2, C3, C4, C5, C6, C7, C8, C9, C10, C11, C12, C13, C14, C15, C16, C17, C18, C19, C20, C21, C22] = [] ++ [C0, C1, C2, C3, C4, C5, C6, C7, C8, C9, C10, C11, C12, C13, C14] ++ [C15, C16, C17, C18, C19, C20, C21, C22] := rfl
  have c1 : [C0, C1, C2, C3, C4, C5, C6, C7, C8, C9, C10, C11, C12, C13, C14, C15, C16, C17, C18, C19, C20, C21, C22] = [C0, C1, C2, C3, C4, C5, C6, C7, C8, C9, C10, C11, C12, C13, C14] ++ [C15, C16, C17] ++ [C18, C19, C20, C21, C22] := rfl
  have c2 : [C0, C1, C2, C3, C4, C5, C6, C7, C8, C9, C10, C11, C12, C13, C14, C15, C16, C17, C18, C19, C20, C21, C22] = [C0, C1, C2, C3, C4, C5, C6, C7, C8, C9, C10, C11, C12, C13, C14, C15, C16, C17] ++ [C18, C19, C20, C21, C22] ++ [] := rfl
  have L15 : ([C0, C1, C2, C3, C4, C5, C6, C7, C8, C9, C10, C11, C12, C13, C14] : List Addr).length = 15 := rfl
  have L18 : ([C0, C1, C2, C3, C4, C5, C6, C7, C8, C9, C10, C11, C12, C13, C14, C15, C16, C17] : List Addr).length = 18 := rfl
  have lG : ([C0, C1, C2, C3, C4, C5, C6, C7, C8, C9, C10, C11, C12, C13, C14] : List Addr).length = 15 := rfl
  have lI : ([C15, C16, C17] : List Addr).length = 3 := rfl
  obtain ⟨f, fd, F, hm⟩ := W
  refine ⟨f, fd, gok F sc_right (fun vs H Q E h => ?_) (fun cdv A outer s H vs Q E ng hr h => ?_), hm, F.kp, F.binds fun _ _ _ _ _ _ us hl => match us, hl with | [_], _ => rfl⟩
  · obtain ⟨a, rfl, _⟩ := h
    rfl
  · obtain ⟨a, rfl, hR, q⟩ := h
    have nd := sc_right.nd
    refine ⟨_, (pss_cons (ps_par (i := 1) (j := 2) (by rfl) nd rfl rfl (by decide) rfl rfl (pa_cons (pe_d D_law_thing (hr.mono (by decide)) rfl (pa_cons (pv 0) pa_nil)) (pa_cons (pe_d D_law_thing (hr.mono (by decide)) rfl (pa_cons (pv 0) pa_nil)) pa_nil)) (by rfl))
        (pss_cons (ps_par (i := 3) (j := 4) (by rfl) nd rfl rfl (by decide) rfl rfl (pa_cons (pe_d D_law_with_given (hr.mono (by decide)) rfl (pa_cons (pv 1) pa_nil)) (pa_cons (pe_d D_law_with_given_named (hr.mono (by decide)) rfl (pa_cons (pv 2) pa_nil)) pa_nil)) (by rfl))
        (pss_cons (ps_par (i := 5) (j := 6) (by rfl) nd rfl rfl (by decide) rfl rfl (pa_cons (pe_d D_law_with_index (hr.mono (by decide)) rfl (pa_cons (pv 2) pa_nil)) (pa_cons (pe_d D_law_with_index_named (hr.mono (by decide)) rfl (pa_cons (pv 1) pa_nil)) pa_nil)) (by rfl))
        (pss_cons (ps_if (pt_cmpR op_ne (pe_callB (call_repr sy ng (hu64 hr)) (by rfl) B.n_repr (by decide +kernel) (pa_cons (pe_lc (own := [("e", 7)]) rfl nd (pi_list (pv 3)) (blkOk_by (own := [("e", 7)]) (N := ["reel", "thing", "other", "first", "second", "third", "fourth", "e", "base"]) (sc := defScope s__law_right) (by decide +kernel)) (fun _ _ _ _ _ => (pg_name (i := 7) nd rfl (Or.inl rfl))) (fun _ _ _ _ _ => pts_nil) (fun _ _ _ _ _ => (pe_xaK (K := K) rfl (pv 7)))) pa_nil)) (pe_callB (call_repr sy ng (hu64 hr)) (by rfl) B.n_repr (by decide +kernel) (pa_cons (pe_op op_rep (pe_lst (pa_cons (pv 1) pa_nil)) pe_int) pa_nil)) (nomark _)) (pss_one (ps_ret pe_bl)) pss_nil)
        (pss_cons (ps_if (pt_cmpR op_ne (pe_callB (call_repr sy ng (hu64 hr)) (by rfl) B.n_repr (by decide +kernel) (pa_cons (pe_lc (own := [("e", 7)]) rfl nd (pi_list (pv 4)) (blkOk_by (own := [("e", 7)]) (N := ["reel", "thing", "other", "first", "second", "third", "fourth", "e", "base"]) (sc := defScope s__law_right) (by decide +kernel)) (fun _ _ _ _ _ => (pg_name (i := 7) nd rfl (Or.inl rfl))) (fun _ _ _ _ _ => pts_nil) (fun _ _ _ _ _ => (pe_xaK (K := K) rfl (pv 7)))) pa_nil)) (pe_callB (call_repr sy ng (hu64 hr)) (by rfl) B.n_repr (by decide +kernel) (pa_cons (pe_op op_rep (pe_lst (pa_cons (pv 2) pa_nil)) pe_int) pa_nil)) (nomark _)) (pss_one (ps_ret pe_bl)) pss_nil)
        (pss_cons (ps_if (pt_cmpR op_ne (pe_callB (call_repr sy ng (hu64 hr)) (by rfl) B.n_repr (by decide +kernel) (pa_cons (pe_lc (own := [("e", 7)]) rfl nd (pi_list (pv 5)) (blkOk_by (own := [("e", 7)]) (N := ["reel", "thing", "other", "first", "second", "third", "fourth", "e", "base"]) (sc := defScope s__law_right) (by decide +kernel)) (fun _ _ _ _ _ => (pg_name (i := 7) nd rfl (Or.inl rfl))) (fun _ _ _ _ _ => pts_nil) (fun _ _ _ _ _ => (pe_xaK (K := K) rfl (pv 7)))) pa_nil)) (pe_callB (call_repr sy ng (hu64 hr)) (by rfl) B.n_repr (by decide +kernel) (pa_cons (pe_op op_rep (pe_lst (pa_cons (pv 2) pa_nil)) pe_int) pa_nil)) (nomark _)) (pss_one (ps_ret pe_bl)) pss_nil)
        (pss_cons (ps_if (pt_cmpR op_ne (pe_callB (call_repr sy ng (hu64 hr)) (by rfl) B.n_repr (by decide +kernel) (pa_cons (pe_lc (own := [("e", 7)]) rfl nd (pi_list (pv 6)) (blkOk_by (own := [("e", 7)]) (N := ["reel", "thing", "other", "first", "second", "third", "fourth", "e", "base"]) (sc := defScope s__law_right) (by decide +kernel)) (fun _ _ _ _ _ => (pg_name (i := 7) nd rfl (Or.inl rfl))) (fun _ _ _ _ _ => pts_nil) (fun _ _ _ _ _ => (pe_xaK (K := K) rfl (pv 7)))) pa_nil)) (pe_callB (call_repr sy ng (hu64 hr)) (by rfl) B.n_repr (by decide +kernel) (pa_cons (pe_op op_rep (pe_lst (pa_cons (pv 1) pa_nil)) pe_int) pa_nil)) (nomark _)) (pss_one (ps_ret pe_bl)) pss_nil)
        (pss_cons (ps_if (PW.pt (pw_or (pt_not (pt_val (pe_dg D_law_stand (hr.mono (by decide)) ng rfl (pa_cons (pv 3) (pa_cons pe_int pa_nil))))) (pw_or (pt_not (pt_val (pe_dg D_law_stand (hr.mono (by decide)) ng rfl (pa_cons (pv 4) (pa_cons pe_int pa_nil))))) (pw_or1 (pt_not (pt_val (pe_dg D_law_stand (hr.mono (by decide)) ng rfl (pa_cons (pv 5) (pa_cons pe_int pa_nil))))))))) (pss_one (ps_ret pe_bl)) pss_nil)
        (pss_cons (ps_if (PW.pt (pw_or (pt_not (pt_val (pe_dg D_law_stand (hr.mono (by decide)) ng rfl (pa_cons (pv 6) (pa_cons pe_int pa_nil))))) (pw_or1 (pt_not (pt_val (pe_dg D_law_stand (hr.mono (by decide)) ng rfl (pa_cons (pe_d0 D_law_bare (hr.mono (by decide)) rfl) (pa_cons pe_int pa_nil)))))))) (pss_one (ps_ret pe_bl)) pss_nil)
        (pss_cons (ps_set (i := 8) nd rfl (Or.inl rfl) (pe_x0 PySem.F.excBase_ValueError T.eH T.xH.kC (by rfl) T.mH))
        (pss_one (ps_ret (pe_and (pe_cmpR op_notIn_seq pe_bl (pe_d D_law_kinds (hr.mono (by decide)) rfl (pa_cons (pv 8) pa_nil)) (by rfl)) (pe_one (pe_d D_law_is_under (hr.mono (by decide)) rfl (pa_cons (pv 8) pa_nil)))))))))))))))), ?_⟩
    -- thing, other
    refine ⟨_, rfl, a, rfl, hR, fun v d H1 r1 m1 hR1 b1 => ?_⟩
    refine ⟨_, rfl, a, rfl, hR1, fun v' d' H2 r2 m2 hR2 b2 => ⟨_, _, rfl, ?_⟩⟩
    have r := (r1.mono (But.hid b2)).mono hid_same
    have r' := r2.mono hid_same
    have b := but_trans b1 b2
    -- first .. fourth
    refine ⟨_, rfl, v, rfl, fun es1 p1 H3 s3 e1 x1 => ?_⟩
    refine ⟨_, rfl, v', rfl, fun es2 p2 H4 s4 e2 x2 => ⟨_, _, rfl, ?_⟩⟩
    refine ⟨_, rfl, v', rfl, fun es3 p3 H5 s5 e3 x3 => ?_⟩
    refine ⟨_, rfl, v, rfl, fun es4 p4 H6 s6 e4 x4 => ⟨_, _, rfl, ?_⟩⟩
    have t5 := s6
    have t4 := s5.trans t5
    have t3 := s4.trans t4
    have t2 := s3.trans t3
    have y1 := x1.mono t3
    have y2 := x2.mono t4
    have y3 := x3.mono t5
    have g1 := t3 _ _ e1
    have g2 := t4 _ _ e2
    have g3 := t5 _ _ e3
    have rv := r.mono t2
    have rv' := r'.mono t2
    have n1 : es1.length = 15 := y1.all.len
    have n2 : es2.length = 15 := y2.all.len
    have n3 : es3.length = 3 := y3.all.len
    have n4 : es4.length = 3 := x4.all.len
    have b6 := but_trans b (same_but a t2)
    -- [e.f for e in ..] and [..] * n
    refine ⟨_, rfl, _, rfl, ⟨_, SqL.of g1⟩, fun D1 hD1 => lc_list (K := K) (a := p1) (xs := es1.map V.ref) (fun i Hx => Hx = upd H6 D1 (.lst (List.replicate i v))) rfl (fun i Hx _ e => by rw [e]; exact SqL.of ((same_new hD1) _ _ g1)) ?_ ?_⟩
    · rintro i y Hx hi rfl
      rw [List.getElem?_map] at hi
      obtain ⟨e, he, rfl⟩ := Option.map_eq_some_iff.mp hi
      obtain ⟨hi', rfl⟩ := List.getElem?_eq_some_iff.mp he
      refine ⟨rfl, ?_⟩
      unfold tYes
      dsimp only []
      rw [if_pos rfl]
      refine ⟨_, rfl, ?_⟩
      exact attr_turn y1 noG hD1 hi' (by omega)
    rintro Hx rfl
    rw [List.length_map, n1]
    have z1 : Same H6 (upd H6 D1 (.lst (List.replicate 15 v))) := same_new hD1
    have k1 : upd H6 D1 (.lst (List.replicate 15 v)) D1 = some (.lst (List.replicate 15 v)) := upd_same
    generalize upd H6 D1 (.lst (List.replicate 15 v)) = G1 at z1 k1 ⊢
    have o1 := okd_rep m1 15 (by decide) (by decide)
    refine ⟨D1, _, rfl, .lst (SqL.of k1) (rpa_rep (rv.mono z1) 15), o1.1, o1.2.1, o1.fits, ?_⟩
    refine ⟨_, rfl, (by show 1 ≤ sizeLine; decide), fun l1 hl1 => ?_⟩
    refine ⟨l1, 15, [v], rfl, rfl, upd_same, by decide, by decide, (by show 1 * 15 ≤ sizeLine; decide), fun w1 hw1 => ?_⟩
    have zz1 : Same G1 (upd (upd G1 l1 (.lst [v])) w1 (.lst (List.replicate (Int.toNat 15) [v]).flatten)) := (same_new hl1).trans (same_new hw1)
    have kk1 : upd (upd G1 l1 (.lst [v])) w1 (.lst (List.replicate (Int.toNat 15) [v]).flatten) w1 = some (.lst (List.replicate 15 v)) := upd_same
    try dsimp only []
    generalize upd (upd G1 l1 (.lst [v])) w1 (.lst (List.replicate (Int.toNat 15) [v]).flatten) = J1 at zz1 kk1 ⊢
    have u1 := z1.trans zz1
    refine ⟨w1, _, rfl, .lst (SqL.of kk1) (rpa_rep (rv.mono u1) 15), o1.1, o1.2.1, o1.fits, rfl, _, rfl, ?_⟩
    refine iteNS rfl ?_
    have g1 := u1 _ _ g1
    have g2 := u1 _ _ g2
    have g3 := u1 _ _ g3
    have e4 := u1 _ _ e4
    have y1 := y1.mono u1
    have y2 := y2.mono u1
    have y3 := y3.mono u1
    have x4 := x4.mono u1
    have rv := rv.mono u1
    have rv' := rv'.mono u1
    have b6 := but_trans b6 (same_but a u1)
    -- [e.f for e in ..] and [..] * n
    refine ⟨_, rfl, _, rfl, ⟨_, SqL.of g2⟩, fun D2 hD2 => lc_list (K := K) (a := p2) (xs := es2.map V.ref) (fun i Hx => Hx = upd J1 D2 (.lst (List.replicate i v'))) rfl (fun i Hx _ e => by rw [e]; exact SqL.of ((same_new hD2) _ _ g2)) ?_ ?_⟩
    · rintro i y Hx hi rfl
      rw [List.getElem?_map] at hi
      obtain ⟨e, he, rfl⟩ := Option.map_eq_some_iff.mp hi
      obtain ⟨hi', rfl⟩ := List.getElem?_eq_some_iff.mp he
      refine ⟨rfl, ?_⟩
      unfold tYes
      dsimp only []
      rw [if_pos rfl]
      refine ⟨_, rfl, ?_⟩
      exact attr_turn y2 noG hD2 hi' (by omega)
    rintro Hx rfl
    rw [List.length_map, n2]
    have z2 : Same J1 (upd J1 D2 (.lst (List.replicate 15 v'))) := same_new hD2
    have k2 : upd J1 D2 (.lst (List.replicate 15 v')) D2 = some (.lst (List.replicate 15 v')) := upd_same
    generalize upd J1 D2 (.lst (List.replicate 15 v')) = G2 at z2 k2 ⊢
    have o2 := okd_rep m2 15 (by decide) (by decide)
    refine ⟨D2, _, rfl, .lst (SqL.of k2) (rpa_rep (rv'.mono z2) 15), o2.1, o2.2.1, o2.fits, ?_⟩
    refine ⟨_, rfl, (by show 1 ≤ sizeLine; decide), fun l2 hl2 => ?_⟩
    refine ⟨l2, 15, [v'], rfl, rfl, upd_same, by decide, by decide, (by show 1 * 15 ≤ sizeLine; decide), fun w2 hw2 => ?_⟩
    have zz2 : Same G2 (upd (upd G2 l2 (.lst [v'])) w2 (.lst (List.replicate (Int.toNat 15) [v']).flatten)) := (same_new hl2).trans (same_new hw2)
    have kk2 : upd (upd G2 l2 (.lst [v'])) w2 (.lst (List.replicate (Int.toNat 15) [v']).flatten) w2 = some (.lst (List.replicate 15 v')) := upd_same
    try dsimp only []
    generalize upd (upd G2 l2 (.lst [v'])) w2 (.lst (List.replicate (Int.toNat 15) [v']).flatten) = J2 at zz2 kk2 ⊢
    have u2 := z2.trans zz2
    refine ⟨w2, _, rfl, .lst (SqL.of kk2) (rpa_rep (rv'.mono u2) 15), o2.1, o2.2.1, o2.fits, rfl, _, rfl, ?_⟩
    refine iteNS rfl ?_
    have g1 := u2 _ _ g1
    have g2 := u2 _ _ g2
    have g3 := u2 _ _ g3
    have e4 := u2 _ _ e4
    have y1 := y1.mono u2
    have y2 := y2.mono u2
    have y3 := y3.mono u2
    have x4 := x4.mono u2
    have rv := rv.mono u2
    have rv' := rv'.mono u2
    have b6 := but_trans b6 (same_but a u2)
    -- [e.f for e in ..] and [..] * n
    refine ⟨_, rfl, _, rfl, ⟨_, SqL.of g3⟩, fun D3 hD3 => lc_list (K := K) (a := p3) (xs := es3.map V.ref) (fun i Hx => Hx = upd J2 D3 (.lst (List.replicate i v'))) rfl (fun i Hx _ e => by rw [e]; exact SqL.of ((same_new hD3) _ _ g3)) ?_ ?_⟩
    · rintro i y Hx hi rfl
      rw [List.getElem?_map] at hi
      obtain ⟨e, he, rfl⟩ := Option.map_eq_some_iff.mp hi
      obtain ⟨hi', rfl⟩ := List.getElem?_eq_some_iff.mp he
      refine ⟨rfl, ?_⟩
      unfold tYes
      dsimp only []
      rw [if_pos rfl]
      refine ⟨_, rfl, ?_⟩
      exact attr_turn y3 noI hD3 hi' (by omega)
    rintro Hx rfl
    rw [List.length_map, n3]
    have z3 : Same J2 (upd J2 D3 (.lst (List.replicate 3 v'))) := same_new hD3
    have k3 : upd J2 D3 (.lst (List.replicate 3 v')) D3 = some (.lst (List.replicate 3 v')) := upd_same
    generalize upd J2 D3 (.lst (List.replicate 3 v')) = G3 at z3 k3 ⊢
    have o3 := okd_rep m2 3 (by decide) (by decide)
    refine ⟨D3, _, rfl, .lst (SqL.of k3) (rpa_rep (rv'.mono z3) 3), o3.1, o3.2.1, o3.fits, ?_⟩
    refine ⟨_, rfl, (by show 1 ≤ sizeLine; decide), fun l3 hl3 => ?_⟩
    refine ⟨l3, 3, [v'], rfl, rfl, upd_same, by decide, by decide, (by show 1 * 3 ≤ sizeLine; decide), fun w3 hw3 => ?_⟩
    have zz3 : Same G3 (upd (upd G3 l3 (.lst [v'])) w3 (.lst (List.replicate (Int.toNat 3) [v']).flatten)) := (same_new hl3).trans (same_new hw3)
    have kk3 : upd (upd G3 l3 (.lst [v'])) w3 (.lst (List.replicate (Int.toNat 3) [v']).flatten) w3 = some (.lst (List.replicate 3 v')) := upd_same
    try dsimp only []
    generalize upd (upd G3 l3 (.lst [v'])) w3 (.lst (List.replicate (Int.toNat 3) [v']).flatten) = J3 at zz3 kk3 ⊢
    have u3 := z3.trans zz3
    refine ⟨w3, _, rfl, .lst (SqL.of kk3) (rpa_rep (rv'.mono u3) 3), o3.1, o3.2.1, o3.fits, rfl, _, rfl, ?_⟩
    refine iteNS rfl ?_
    have g1 := u3 _ _ g1
    have g2 := u3 _ _ g2
    have g3 := u3 _ _ g3
    have e4 := u3 _ _ e4
    have y1 := y1.mono u3
    have y2 := y2.mono u3
    have y3 := y3.mono u3
    have x4 := x4.mono u3
    have rv := rv.mono u3
    have rv' := rv'.mono u3
    have b6 := but_trans b6 (same_but a u3)
    -- [e.f for e in ..] and [..] * n
    refine ⟨_, rfl, _, rfl, ⟨_, SqL.of e4⟩, fun D4 hD4 => lc_list (K := K) (a := p4) (xs := es4.map V.ref) (fun i Hx => Hx = upd J3 D4 (.lst (List.replicate i v))) rfl (fun i Hx _ e => by rw [e]; exact SqL.of ((same_new hD4) _ _ e4)) ?_ ?_⟩
    · rintro i y Hx hi rfl
      rw [List.getElem?_map] at hi
      obtain ⟨e, he, rfl⟩ := Option.map_eq_some_iff.mp hi
      obtain ⟨hi', rfl⟩ := List.getElem?_eq_some_iff.mp he
      refine ⟨rfl, ?_⟩
      unfold tYes
      dsimp only []
      rw [if_pos rfl]
      refine ⟨_, rfl, ?_⟩
      exact attr_turn x4 noI hD4 hi' (by omega)
    rintro Hx rfl
    rw [List.length_map, n4]
    have z4 : Same J3 (upd J3 D4 (.lst (List.replicate 3 v))) := same_new hD4
    have k4 : upd J3 D4 (.lst (List.replicate 3 v)) D4 = some (.lst (List.replicate 3 v)) := upd_same
    generalize upd J3 D4 (.lst (List.replicate 3 v)) = G4 at z4 k4 ⊢
    have o4 := okd_rep m1 3 (by decide) (by decide)
    refine ⟨D4, _, rfl, .lst (SqL.of k4) (rpa_rep (rv.mono z4) 3), o4.1, o4.2.1, o4.fits, ?_⟩
    refine ⟨_, rfl, (by show 1 ≤ sizeLine; decide), fun l4 hl4 => ?_⟩
    refine ⟨l4, 3, [v], rfl, rfl, upd_same, by decide, by decide, (by show 1 * 3 ≤ sizeLine; decide), fun w4 hw4 => ?_⟩
    have zz4 : Same G4 (upd (upd G4 l4 (.lst [v])) w4 (.lst (List.replicate (Int.toNat 3) [v]).flatten)) := (same_new hl4).trans (same_new hw4)
    have kk4 : upd (upd G4 l4 (.lst [v])) w4 (.lst (List.replicate (Int.toNat 3) [v]).flatten) w4 = some (.lst (List.replicate 3 v)) := upd_same
    try dsimp only []
    generalize upd (upd G4 l4 (.lst [v])) w4 (.lst (List.replicate (Int.toNat 3) [v]).flatten) = J4 at zz4 kk4 ⊢
    have u4 := z4.trans zz4
    refine ⟨w4, _, rfl, .lst (SqL.of kk4) (rpa_rep (rv.mono u4) 3), o4.1, o4.2.1, o4.fits, rfl, _, rfl, ?_⟩
    refine iteNS rfl ?_
    have g1 := u4 _ _ g1
    have g2 := u4 _ _ g2
    have g3 := u4 _ _ g3
    have e4 := u4 _ _ e4
    have y1 := y1.mono u4
    have y2 := y2.mono u4
    have y3 := y3.mono u4
    have x4 := x4.mono u4
    have rv := rv.mono u4
    have rv' := rv'.mono u4
    have b6 := but_trans b6 (same_but a u4)
    -- the classes
    refine ⟨_, rfl, p1, es1, 0, rfl, SqL.of g1, by omega, by decide, (by rw [c0]; exact place (pre := []) y1.all), fun M1 v1 => ⟨true, rfl, iteF ?_⟩⟩
    refine ⟨_, rfl, p2, es2, 0, rfl, SqL.of (v1 _ _ g2), by omega, by decide, (by rw [c0]; exact place (pre := []) (y2.all.mono v1)), fun M2 v2 => ⟨true, rfl, iteF ?_⟩⟩
    refine ⟨_, rfl, p3, es3, 15, rfl, SqL.of (v2 _ _ (v1 _ _ g3)), by omega, by decide, (by rw [c1, ← L15]; exact place ((y3.all.mono v1).mono v2)), fun M3 v3 => ⟨true, rfl, iteF ?_⟩⟩
    refine ⟨_, rfl, p4, es4, 15, rfl, SqL.of (v3 _ _ (v2 _ _ (v1 _ _ e4))), by omega, by decide, (by rw [c1, ← L15]; exact place (((x4.all.mono v1).mono v2).mono v3)), fun M4 v4 => ⟨true, rfl, iteF ?_⟩⟩
    refine ⟨rfl, fun es5 p5 M5 v5 e5 x5 => ?_⟩
    have n5 : es5.length = 5 := x5.len
    refine ⟨p5, es5, 18, rfl, SqL.of e5, by omega, by decide, (by rw [c2, ← L18]; exact place x5), fun M6 v6 => ⟨true, rfl, iteF ?_⟩⟩
    refine fun bs M7 v7 x7 => ?_
    have hE : Err K HE M7 bs HE veUp := ⟨x7.is, T.xH, Or.inl ⟨rfl, rfl⟩⟩
    refine ⟨_, rfl, bs, HE, veUp, rfl, hE, fun pk M8 v8 e8 => ?_⟩
    have hk0 : ∀ D ∈ [C0, C1, C2, C3, C4, C5, C6, C7, C8, C9, C10, C11, C12, C13, C14, C15, C16, C17, C18, C19, C20, C21, C22], (Value.ref HE :: veUp).contains (.ref D) = false := by
      intro D hD
      have hne : D ≠ HE := fun z => (List.nodup_cons.mp hnd).1 (z ▸ hD)
      have e : veUp.contains (Value.ref D) = false := rfl
      rw [List.contains_cons, e, Bool.or_false]
      exact beq_eq_false_iff_ne.mpr fun z => hne (Value.ref.inj z)
    have hin : inV (.bl true) ((kinds [C0, C1, C2, C3, C4, C5, C6, C7, C8, C9, C10, C11, C12, C13, C14, C15, C16, C17, C18, C19, C20, C21, C22] HE veUp).map V.bl) = false := by
      unfold inV kinds
      rw [List.map_map, List.any_map, List.any_eq_false]
      intro D hD
      simp only [Function.comp, hk0 D hD]
      decide
    have hfl : ((kinds [C0, C1, C2, C3, C4, C5, C6, C7, C8, C9, C10, C11, C12, C13, C14, C15, C16, C17, C18, C19, C20, C21, C22] HE veUp).map V.bl).all flatV = true := by
      rw [List.all_map, List.all_eq_true]
      intro x _
      rfl
    refine ⟨pk, _, rfl, Or.inl (SqL.of e8), rfl, hfl, true, congrArg V.bl (by rw [if_pos rfl, hin]; rfl), iteT ?_⟩
    refine ⟨_, rfl, bs, HE, veUp, rfl, hE.mono v8, fun M9 v9 => ?_⟩
    exact q M9 (but_trans b6 (same_but a ((((((((v1.trans v2).trans v3).trans v4).trans v5).trans v6).trans v7).trans v8).trans v9)))
end
end Vx
namespace Vx
open PySem PySem.Spec PyProof.Rows L2
section
variable {P : Program} {w : World} {K : PySem.W.Frag} {mg : Str → Option Value} {base : Heap} {HE C0 C1 C2 C3 C4 C5 C6 C7 C8 C9 C10 C11 C12 C13 C14 C15 C16 C17 C18 C19 C20 C21 C22 : Addr}
/-- law tells True of every script -/
def spLaw (K : PySem.W.Frag) : Sp := fun vs H Q _ => ∃ (a : Addr) (ns : List Int), vs = [.ref a] ∧ SqL K H a (ns.map V.int) ∧ ns.length ≤ 63 ∧ ∀ H', Q (.bl true) H'
theorem sc_law : FnScope ["script", "turn"] ["script"] (defScope s_law) := ⟨rfl, rfl, rfl, by decide +kernel, rfl, by decide +kernel, by decide +kernel⟩
theorem fn_law {f : Addr} {fd : FuncData} (F : Fun K "law" "law" s_law f fd) (B : Bls mg) (D_law_reel : Df P w K mg base "_law_reel" 1 ["script", "turn"] (spReel K)) (D_law_right : Dg P w K mg base "_law_right" 4 ["reel"] spRight) :
    FnG P w K mg base CX0 5 f fd ["script"] (spLaw K) := by
  refine gok F sc_law (fun vs H Q E h => ?_) (fun cdv A outer s H vs Q E ng hr h => ?_)
  · obtain ⟨a, ns, rfl, _⟩ := h
    rfl
  · obtain ⟨a, ns, rfl, hS, hl, q⟩ := h
    have nd := sc_law.nd
    refine ⟨_, (pss_one (ps_ret (pe_callB (cr_all rfl) (by rfl) B.n_all (by decide +kernel) (pa_cons (pe_lc (own := [("turn", 1)]) rfl nd (pi_range1 rfl B.n_range (pa_cons (pe_callB (call_max2 rfl) (by rfl) B.n_max (by decide +kernel) (pa_cons pe_int (pa_cons (pe_callB (call_min2 rfl) (by rfl) B.n_min (by decide +kernel) (pa_cons (pe_callB call_len_seq (by rfl) B.n_len (by decide +kernel) (pa_cons (pv 0) pa_nil)) (pa_cons pe_int pa_nil))) pa_nil))) pa_nil)) (blkOk_by (own := [("turn", 1)]) (N := ["script", "turn"]) (sc := defScope s_law) (by decide +kernel)) (fun _ _ _ _ _ => (pg_name (i := 1) nd rfl (Or.inl rfl))) (fun _ _ _ _ _ => pts_nil) (fun _ _ _ _ _ => (pe_dg D_law_right (hr.mono (by decide)) ng rfl (pa_cons (pe_d D_law_reel (hr.mono (by decide)) rfl (pa_cons (pv 0) (pa_cons (pv 1) pa_nil))) pa_nil)))) pa_nil)))), ?_⟩
    refine ⟨_, rfl, _, _, rfl, Or.inl hS, _, _, rfl, _, _, rfl, ?_⟩
    rw [List.length_map]
    obtain ⟨n, hn, n3⟩ : ∃ n : Nat, (if (if (3 : Int) < (ns.length : Int) then (3 : Int) else (ns.length : Int)) > 1 then (if (3 : Int) < (ns.length : Int) then (3 : Int) else (ns.length : Int)) else 1) = (n : Int) ∧ n ≤ 3 := by
      refine ⟨(if (if (3 : Int) < (ns.length : Int) then (3 : Int) else (ns.length : Int)) > 1 then (if (3 : Int) < (ns.length : Int) then (3 : Int) else (ns.length : Int)) else 1).toNat, ?_, ?_⟩ <;> (split <;> split <;> omega)
    refine ⟨(n : Int), congrArg (fun z => [V.int z]) hn, by omega, by omega, fun D hD => lc_range (n := n) (fun i Hx => Same H Hx ∧ Hx D = some (.lst (List.replicate i (V.bl true)))) ⟨same_new hD, upd_same⟩ ?_ ?_⟩
    · rintro i Hx hi ⟨sx, ex⟩
      refine ⟨rfl, ?_⟩
      unfold tYes
      dsimp only []
      rw [if_pos rfl]
      refine ⟨_, rfl, _, rfl, a, ns, 0 + (i : Int), rfl, sx.seq hS, hl, by omega, by omega, fun p H1 hp hR s1 => ?_⟩
      have hne : D ≠ p := ne_of_none ex hp
      refine ⟨p, rfl, hR, fun H2 b2 => ?_⟩
      have e2 : H2 D = some (.lst (List.replicate i (V.bl true))) := b2 _ _ (s1 _ _ ex) hne
      refine ⟨_, e2, ?_, fun b o e => ?_, ?_⟩
      · rw [List.length_replicate, sizeLine_eq]
        omega
      · rw [upd_ne (ne_of_none e hD)]
        exact b2 _ _ (s1 _ _ (sx _ _ e)) (ne_of_none (sx _ _ e) hp)
      · rw [upd_same, List.replicate_succ']
    · rintro Hx ⟨sx, ex⟩
      refine ⟨D, List.replicate n true, rfl, SqL.of (by rw [List.map_replicate]; exact ex), ?_⟩
      rw [show (List.replicate n true).all id = true from by simp]
      exact q Hx
theorem law_all {fa : Addr} (hfa : mg "law" = some (.ref fa)) (B : Bls mg) (T : KF K mg HE C0 C1 C2 C3 C4 C5 C6 C7 C8 C9 C10 C11 C12 C13 C14 C15 C16 C17 C18 C19 C20 C21 C22)
    (L : mg "ValueError" = none ∧ mg "LookupError" = none ∧ mg "TypeError" = none ∧ mg "ArithmeticError" = none ∧ mg "RuntimeError" = none)
    (W0 : FunIn K mg "_law_reel" s__law_reel) (W1 : FunIn K mg "_law_pull" s__law_pull) (W2 : FunIn K mg "_law_one_of" s__law_one_of) (W3 : FunIn K mg "_law_with_given" s__law_with_given) (W4 : FunIn K mg "_law_with_given_named" s__law_with_given_named) (W5 : FunIn K mg "_law_with_index" s__law_with_index) (W6 : FunIn K mg "_law_with_index_named" s__law_with_index_named) (W7 : FunIn K mg "_law_bare" s__law_bare) (W8 : FunIn K mg "_law_kinds" s__law_kinds) (W9 : FunIn K mg "_law_is_under" s__law_is_under) (W10 : FunIn K mg "_law_stand" s__law_stand) (W11 : FunIn K mg "_law_thing" s__law_thing) (W12 : FunIn K mg "_law_right" s__law_right) (W13 : FunIn K mg "law" s_law) :
    ∃ fd : FuncData, (∀ (s : Shared) (u : Value), BindsTo s fd ⟨[u], []⟩ [("script", u)]) ∧
      ∀ base : Heap, K.In base → base.Ns mainGlobals mg → Sys base → FnG P w K mg base CX0 5 fa fd ["script"] (spLaw K) := by
  obtain ⟨f, fd, F, hm⟩ := W13
  have e : fa = f := Value.ref.inj (Option.some.inj (hfa.symm.trans hm))
  subst e
  refine ⟨fd, ?_, fun base _ _ sy => ?_⟩
  · obtain ⟨oc, od, kV, doc, pm, an, cdv, ct, osl, rfl, _, _⟩ := F.ex
    exact fun s u => .of_eq rfl
  · have D1 : Df P w K mg base "_law_pull" 1 ["reel", "many"] spPull := d_pull W1 B
    have D0 : Df P w K mg base "_law_reel" 1 ["script", "turn"] (spReel K) := d_reel W0 B
    have D2 : Df P w K mg base "_law_one_of" 2 ["reel", "some"] (spOneOf K) := d_one_of W2 B D1
    have D3 : Df P w K mg base "_law_with_given" 3 ["thing"] (spMk [C0, C1, C2, C3, C4, C5, C6, C7, C8, C9, C10, C11, C12, C13, C14] "given") := d__law_with_given W3 T
    have D4 : Df P w K mg base "_law_with_given_named" 3 ["thing"] (spMk [C0, C1, C2, C3, C4, C5, C6, C7, C8, C9, C10, C11, C12, C13, C14] "given") := d__law_with_given_named W4 T
    have D5 : Df P w K mg base "_law_with_index" 3 ["thing"] (spMk [C15, C16, C17] "index") := d__law_with_index W5 T
    have D6 : Df P w K mg base "_law_with_index_named" 3 ["thing"] (spMk [C15, C16, C17] "index") := d__law_with_index_named W6 T
    have D7 : Df P w K mg base "_law_bare" 1 [] (spBare [C18, C19, C20, C21, C22]) := d__law_bare W7 T
    have D8 : Df P w K mg base "_law_kinds" 1 ["e"] (spKinds K HE [C0, C1, C2, C3, C4, C5, C6, C7, C8, C9, C10, C11, C12, C13, C14, C15, C16, C17, C18, C19, C20, C21, C22]) := d__law_kinds W8 B T
    have D9 : Df P w K mg base "_law_is_under" 1 ["e"] (spUnder K HE) := d__law_is_under W9 B L T
    have D10 : Dg P w K mg base "_law_stand" 3 ["errors", "start"] (spStand K [C0, C1, C2, C3, C4, C5, C6, C7, C8, C9, C10, C11, C12, C13, C14, C15, C16, C17, C18, C19, C20, C21, C22]) := d_stand W10 B T sy D8 D9
    have D11 : Df P w K mg base "_law_thing" 3 ["reel"] (spThing K) := d_thing W11 B D2 D1
    have D12 : Dg P w K mg base "_law_right" 4 ["reel"] spRight := d_right W12 B T sy D11 D3 D4 D5 D6 D7 D8 D9 D10
    exact fn_law F B D0 D12
end
end Vx
namespace Vx
open PySem PySem.Spec PyProof.Rows L2
section
variable {K : PySem.W.Frag} {h : Heap} {mg : Str → Option Value} {R : Prop}
theorem st_cls {x nm q : Str} {C N : Addr} {bs up sub : List Value} {sn : List Str} {ab : Bool} {col : Option Bool} {dd : Option Addr} {k0 k1 k2 k3 k5 : Option Value} (X : K.In h) (G : h.Ns mainGlobals mg)
    (a : PySem.W.nsIn K mainGlobals x = some (some (.ref C)))
    (l : K.lookup C = some (excClassObj nm q C N bs up true sn sub ab col dd k0 k1 k2 k3 k5 "ValueError.__new__"))
    (sa : PySem.W.findIn K (.ref C) "__setattr__" = some (some (.builtin "object.__setattr__")))
    (ga : PySem.W.findIn K (.ref C) "__getattribute__" = some (some (.builtin "BaseException.__getattribute__")))
    (gg : PySem.W.findIn K (.ref C) "__getattr__" = some none) (ca : PySem.W.findIn K (.ref C) "__class__" = some (some (.builtin "object.__class__")))
    (kC : PySem.W.keepIn K (.ref C) = true) (k : Xc K C up → mg x = some (.ref C) → R) : R :=
  k ⟨⟨_, _, _, _, _, _, _, _, _, _, _, _, _, _, l⟩, sa, ga, gg, ca, kC⟩ (PySem.W.mg_of X G a)
/-- the text of an __init__ that stores its argument -/
structure IniS (st : Stmt) (qn f : Str) : Prop where
  sc : FnScope ["self", f] ["self", f] (defScope st)
  bd : ∃ p1 p2 p3 p4, defBody st = [.Assign [.Attribute (.Name "self" p1) f p2] (.Name f p3) p4]
  h1 : (f == ("__debug__" : Str)) = false
  h2 : (f == ("__classdict__" : Str)) = false
  hp : ∀ (kV dc pm : Value) (an : Option Addr) (cd ct : Value) (us : List Value), us.length = 2 → bindArgs (PySem.W.fnOf "__init__" qn (defArgs st) (defBody st) (defScope st) .none kV dc pm an cd ct) ⟨us, []⟩ = pure ((["self", f] : List Str).zip us)
  hk : ∀ (kV dc pm : Value) (an : Option Addr) (cd ct : Value) (e v : Value), bindArgs (PySem.W.fnOf "__init__" qn (defArgs st) (defBody st) (defScope st) .none kV dc pm an cd ct) ⟨[e], [(f, v)]⟩ = pure ([("self", e), (f, v)] : List (Str × Value))
theorem st_ini {qn f : Str} {st : Stmt} {C HE fI : Addr} {oc kV dc pm cd ct : Value} {od an : Option Addr} {sl : Array (Option Value)} (S : IniS st qn f) (T : Xc K C (.ref HE :: veUp))
    (iC : PySem.W.findIn K (.ref C) "__init__" = some (some (.ref fI))) (no : PySem.W.findIn K (.ref C) f = some none) (tI : PySem.W.typeIn K (.ref fI) = some (.type "function"))
    (l : K.lookup fI = some ⟨oc, od, .func (PySem.W.fnOf "__init__" qn (defArgs st) (defBody st) (defScope st) .none kV dc pm an cd ct), sl⟩)
    (c : PySem.W.codeIn K cd qn = true) (kk : PySem.W.keepIn K (.ref fI) = true) (k : Ini K C f → R) : R := by
  have F := fun_mk (st := st) l c kk
  obtain ⟨p1, p2, p3, p4, hb⟩ := S.bd
  exact k ⟨⟨fI, _, iC, tI, fun P w mg base => ini_ok T.ox no F S.sc hb S.h1 S.h2, .all (S.hp _ _ _ _ _ _), fun s e v => .of_eq (S.hk _ _ _ _ _ _ _ _)⟩, no⟩
theorem st_def {x : Str} {st : Stmt} {f : Addr} {oc kV dc pm cd ct : Value} {od an : Option Addr} {sl : Array (Option Value)} (X : K.In h) (G : h.Ns mainGlobals mg)
    (a : PySem.W.nsIn K mainGlobals x = some (some (.ref f)))
    (l : K.lookup f = some ⟨oc, od, .func (PySem.W.fnOf x x (defArgs st) (defBody st) (defScope st) .none kV dc pm an cd ct), sl⟩)
    (c : PySem.W.codeIn K cd x = true) (kk : PySem.W.keepIn K (.ref f) = true) (k : FunIn K mg x st → R) : R := k (funIn X G a l c kk)
theorem st_non {x : Str} (X : K.In h) (G : h.Ns mainGlobals mg) (a : PySem.W.nsIn K mainGlobals x = some none) (k : mg x = none → R) : R := k (PySem.W.mg_none_of X G a)
theorem st_exc {C : Addr} {up : List Value} (_ : Xc K C up) (a : PySem.W.excIn K C [.type "ValueError", .type "Exception", .type "BaseException", .type "object"] "ValueError.__new__" = true)
    (k : PySem.W.excIn K C veUp "ValueError.__new__" = true → R) : R := k a
theorem st_g (_ : K.In h) (a : PySem.W.specialIn K (.builtin "object.__class__") "__get__" = some (some (.builtin "getset_descriptor.__get__"))) (b : PySem.W.takesIn K (.builtin "object.__class__") = some true) (k : ClsG K → R) : R := k ⟨a, b⟩
end
theorem ini_s0 : IniS (inClass (top 2) 0) "InvalidFraction.__init__" "given" := ⟨⟨rfl, rfl, rfl, by decide +kernel, rfl, by decide +kernel, by decide +kernel⟩, ⟨_, _, _, _, rfl⟩, by decide, by decide, fun _ _ _ _ _ _ us hl => (match us, hl with | [_, _], _ => rfl), fun _ _ _ _ _ _ _ _ => rfl⟩
theorem ini_s1 : IniS (inClass (top 3) 0) "InvalidNumber.__init__" "given" := ⟨⟨rfl, rfl, rfl, by decide +kernel, rfl, by decide +kernel, by decide +kernel⟩, ⟨_, _, _, _, rfl⟩, by decide, by decide, fun _ _ _ _ _ _ us hl => (match us, hl with | [_, _], _ => rfl), fun _ _ _ _ _ _ _ _ => rfl⟩
theorem ini_s2 : IniS (inClass (top 4) 0) "InvalidRow.__init__" "given" := ⟨⟨rfl, rfl, rfl, by decide +kernel, rfl, by decide +kernel, by decide +kernel⟩, ⟨_, _, _, _, rfl⟩, by decide, by decide, fun _ _ _ _ _ _ us hl => (match us, hl with | [_, _], _ => rfl), fun _ _ _ _ _ _ _ _ => rfl⟩
theorem ini_s3 : IniS (inClass (top 5) 0) "InvalidAnswer.__init__" "given" := ⟨⟨rfl, rfl, rfl, by decide +kernel, rfl, by decide +kernel, by decide +kernel⟩, ⟨_, _, _, _, rfl⟩, by decide, by decide, fun _ _ _ _ _ _ us hl => (match us, hl with | [_, _], _ => rfl), fun _ _ _ _ _ _ _ _ => rfl⟩
theorem ini_s4 : IniS (inClass (top 6) 0) "InvalidMachine.__init__" "given" := ⟨⟨rfl, rfl, rfl, by decide +kernel, rfl, by decide +kernel, by decide +kernel⟩, ⟨_, _, _, _, rfl⟩, by decide, by decide, fun _ _ _ _ _ _ us hl => (match us, hl with | [_, _], _ => rfl), fun _ _ _ _ _ _ _ _ => rfl⟩
theorem ini_s5 : IniS (inClass (top 7) 0) "InvalidHelm.__init__" "given" := ⟨⟨rfl, rfl, rfl, by decide +kernel, rfl, by decide +kernel, by decide +kernel⟩, ⟨_, _, _, _, rfl⟩, by decide, by decide, fun _ _ _ _ _ _ us hl => (match us, hl with | [_, _], _ => rfl), fun _ _ _ _ _ _ _ _ => rfl⟩
theorem ini_s6 : IniS (inClass (top 8) 0) "InvalidRule.__init__" "given" := ⟨⟨rfl, rfl, rfl, by decide +kernel, rfl, by decide +kernel, by decide +kernel⟩, ⟨_, _, _, _, rfl⟩, by decide, by decide, fun _ _ _ _ _ _ us hl => (match us, hl with | [_, _], _ => rfl), fun _ _ _ _ _ _ _ _ => rfl⟩
theorem ini_s7 : IniS (inClass (top 9) 0) "InvalidStart.__init__" "given" := ⟨⟨rfl, rfl, rfl, by decide +kernel, rfl, by decide +kernel, by decide +kernel⟩, ⟨_, _, _, _, rfl⟩, by decide, by decide, fun _ _ _ _ _ _ us hl => (match us, hl with | [_, _], _ => rfl), fun _ _ _ _ _ _ _ _ => rfl⟩
theorem ini_s8 : IniS (inClass (top 10) 0) "InvalidIndex.__init__" "given" := ⟨⟨rfl, rfl, rfl, by decide +kernel, rfl, by decide +kernel, by decide +kernel⟩, ⟨_, _, _, _, rfl⟩, by decide, by decide, fun _ _ _ _ _ _ us hl => (match us, hl with | [_, _], _ => rfl), fun _ _ _ _ _ _ _ _ => rfl⟩
theorem ini_s9 : IniS (inClass (top 11) 0) "InvalidName.__init__" "given" := ⟨⟨rfl, rfl, rfl, by decide +kernel, rfl, by decide +kernel, by decide +kernel⟩, ⟨_, _, _, _, rfl⟩, by decide, by decide, fun _ _ _ _ _ _ us hl => (match us, hl with | [_, _], _ => rfl), fun _ _ _ _ _ _ _ _ => rfl⟩
theorem ini_s10 : IniS (inClass (top 12) 0) "InvalidWish.__init__" "given" := ⟨⟨rfl, rfl, rfl, by decide +kernel, rfl, by decide +kernel, by decide +kernel⟩, ⟨_, _, _, _, rfl⟩, by decide, by decide, fun _ _ _ _ _ _ us hl => (match us, hl with | [_, _], _ => rfl), fun _ _ _ _ _ _ _ _ => rfl⟩
theorem ini_s11 : IniS (inClass (top 13) 0) "InvalidPhrase.__init__" "given" := ⟨⟨rfl, rfl, rfl, by decide +kernel, rfl, by decide +kernel, by decide +kernel⟩, ⟨_, _, _, _, rfl⟩, by decide, by decide, fun _ _ _ _ _ _ us hl => (match us, hl with | [_, _], _ => rfl), fun _ _ _ _ _ _ _ _ => rfl⟩
theorem ini_s12 : IniS (inClass (top 14) 0) "UnknownName.__init__" "given" := ⟨⟨rfl, rfl, rfl, by decide +kernel, rfl, by decide +kernel, by decide +kernel⟩, ⟨_, _, _, _, rfl⟩, by decide, by decide, fun _ _ _ _ _ _ us hl => (match us, hl with | [_, _], _ => rfl), fun _ _ _ _ _ _ _ _ => rfl⟩
theorem ini_s13 : IniS (inClass (top 15) 0) "NotAWorkshop.__init__" "given" := ⟨⟨rfl, rfl, rfl, by decide +kernel, rfl, by decide +kernel, by decide +kernel⟩, ⟨_, _, _, _, rfl⟩, by decide, by decide, fun _ _ _ _ _ _ us hl => (match us, hl with | [_, _], _ => rfl), fun _ _ _ _ _ _ _ _ => rfl⟩
theorem ini_s14 : IniS (inClass (top 16) 0) "NotAZero.__init__" "given" := ⟨⟨rfl, rfl, rfl, by decide +kernel, rfl, by decide +kernel, by decide +kernel⟩, ⟨_, _, _, _, rfl⟩, by decide, by decide, fun _ _ _ _ _ _ us hl => (match us, hl with | [_, _], _ => rfl), fun _ _ _ _ _ _ _ _ => rfl⟩
theorem ini_s15 : IniS (inClass (top 17) 0) "InvalidBends.__init__" "index" := ⟨⟨rfl, rfl, rfl, by decide +kernel, rfl, by decide +kernel, by decide +kernel⟩, ⟨_, _, _, _, rfl⟩, by decide, by decide, fun _ _ _ _ _ _ us hl => (match us, hl with | [_, _], _ => rfl), fun _ _ _ _ _ _ _ _ => rfl⟩
theorem ini_s16 : IniS (inClass (top 18) 0) "InUse.__init__" "index" := ⟨⟨rfl, rfl, rfl, by decide +kernel, rfl, by decide +kernel, by decide +kernel⟩, ⟨_, _, _, _, rfl⟩, by decide, by decide, fun _ _ _ _ _ _ us hl => (match us, hl with | [_, _], _ => rfl), fun _ _ _ _ _ _ _ _ => rfl⟩
theorem ini_s17 : IniS (inClass (top 19) 0) "Broken.__init__" "index" := ⟨⟨rfl, rfl, rfl, by decide +kernel, rfl, by decide +kernel, by decide +kernel⟩, ⟨_, _, _, _, rfl⟩, by decide, by decide, fun _ _ _ _ _ _ us hl => (match us, hl with | [_, _], _ => rfl), fun _ _ _ _ _ _ _ _ => rfl⟩
theorem walk {l : PySem.W.OpenLaw} {q : Program} {loose : List Str} {XP : (Str → Option Value) → Heap → Prop} {YP : World → Heap → Prop} {d : DefRec} {K : Params → PySem.W.Frag} (hn : l.most = some 63)
    (hdf : d.params.defaults = []) (him : importsNone q = true) (hY : ∀ (w : World) (h : Heap), YP w h → (K w.params).In h)
    (F : ∀ (w : World) (mg : Str → Option Value) (fa : Addr) (h : Heap), (K w.params).In h → h.Ns mainGlobals mg → mg d.name = some (.ref fa) →
      ∃ fd : FuncData, (∀ (s : Shared) (u : Value), BindsTo s fd ⟨[u], []⟩ [("script", u)]) ∧
        ∀ base : Heap, (K w.params).In base → base.Ns mainGlobals mg → Sys base → FnG l.prog w (K w.params) mg base CX0 5 fa fd ["script"] (spLaw (K w.params))) :
    PySem.W.WalkO q loose XP YP l.row.toRowW d [] (fun f vs => PySem.call f vs) :=
  walk_g (n := 63) (k := 5) (x := "script") (sp := fun w => spLaw (K w.params)) hn (by decide) hdf ⟨rfl, by decide, by decide⟩ him hY F fun _ _ a ns hl hS => ⟨a, ns, rfl, hS, hl, fun _ => rfl⟩
end Vx
open PySem PySem.W PyProof.Rows
set_option Elab.async false
set_option maxRecDepth 100000 in
set_option maxHeartbeats 0 in
theorem PySem.Challenge.cw_allhelms_k01_errors_each_of_its_own_holds : PySem.Challenge.rw_allhelms_k01_errors_each_of_its_own.Holds := by
  w_on; o_law; k_head; (case hw => w_witness2)
  k_fill
  refine Vx.walk (l := PySem.Challenge.rw_allhelms_k01_errors_each_of_its_own) rfl rfl rfl (fun w h Y => PySem.W.kIn_of Y) ?F
  case F =>
    intro w mg fa h KX G hmg
    refine' Vx.st_cls (x := "HelmError") KX G ?a_1 ?l_1 ?sa_1 ?ga_1 ?gg_1 ?ca_1 ?kC_1 ?k_1
    (case a_1 => k_is); (case l_1 => k_is); (case sa_1 => k_is); (case ga_1 => k_is); (case gg_1 => k_is); (case ca_1 => k_is); (case kC_1 => k_is)
    intro xH mH
    refine' Vx.st_cls (x := "InvalidFraction") KX G ?a_2 ?l_2 ?sa_2 ?ga_2 ?gg_2 ?ca_2 ?kC_2 ?k_2
    (case a_2 => k_is); (case l_2 => k_is); (case sa_2 => k_is); (case ga_2 => k_is); (case gg_2 => k_is); (case ca_2 => k_is); (case kC_2 => k_is)
    intro x0 m0
    refine' Vx.st_cls (x := "InvalidNumber") KX G ?a_3 ?l_3 ?sa_3 ?ga_3 ?gg_3 ?ca_3 ?kC_3 ?k_3
    (case a_3 => k_is); (case l_3 => k_is); (case sa_3 => k_is); (case ga_3 => k_is); (case gg_3 => k_is); (case ca_3 => k_is); (case kC_3 => k_is)
    intro x1 m1
    refine' Vx.st_cls (x := "InvalidRow") KX G ?a_4 ?l_4 ?sa_4 ?ga_4 ?gg_4 ?ca_4 ?kC_4 ?k_4
    (case a_4 => k_is); (case l_4 => k_is); (case sa_4 => k_is); (case ga_4 => k_is); (case gg_4 => k_is); (case ca_4 => k_is); (case kC_4 => k_is)
    intro x2 m2
    refine' Vx.st_cls (x := "InvalidAnswer") KX G ?a_5 ?l_5 ?sa_5 ?ga_5 ?gg_5 ?ca_5 ?kC_5 ?k_5
    (case a_5 => k_is); (case l_5 => k_is); (case sa_5 => k_is); (case ga_5 => k_is); (case gg_5 => k_is); (case ca_5 => k_is); (case kC_5 => k_is)
    intro x3 m3
    refine' Vx.st_cls (x := "InvalidMachine") KX G ?a_6 ?l_6 ?sa_6 ?ga_6 ?gg_6 ?ca_6 ?kC_6 ?k_6
    (case a_6 => k_is); (case l_6 => k_is); (case sa_6 => k_is); (case ga_6 => k_is); (case gg_6 => k_is); (case ca_6 => k_is); (case kC_6 => k_is)
    intro x4 m4
    refine' Vx.st_cls (x := "InvalidHelm") KX G ?a_7 ?l_7 ?sa_7 ?ga_7 ?gg_7 ?ca_7 ?kC_7 ?k_7
    (case a_7 => k_is); (case l_7 => k_is); (case sa_7 => k_is); (case ga_7 => k_is); (case gg_7 => k_is); (case ca_7 => k_is); (case kC_7 => k_is)
    intro x5 m5
    refine' Vx.st_cls (x := "InvalidRule") KX G ?a_8 ?l_8 ?sa_8 ?ga_8 ?gg_8 ?ca_8 ?kC_8 ?k_8
    (case a_8 => k_is); (case l_8 => k_is); (case sa_8 => k_is); (case ga_8 => k_is); (case gg_8 => k_is); (case ca_8 => k_is); (case kC_8 => k_is)
    intro x6 m6
    refine' Vx.st_cls (x := "InvalidStart") KX G ?a_9 ?l_9 ?sa_9 ?ga_9 ?gg_9 ?ca_9 ?kC_9 ?k_9
    (case a_9 => k_is); (case l_9 => k_is); (case sa_9 => k_is); (case ga_9 => k_is); (case gg_9 => k_is); (case ca_9 => k_is); (case kC_9 => k_is)
    intro x7 m7
    refine' Vx.st_cls (x := "InvalidIndex") KX G ?a_10 ?l_10 ?sa_10 ?ga_10 ?gg_10 ?ca_10 ?kC_10 ?k_10
    (case a_10 => k_is); (case l_10 => k_is); (case sa_10 => k_is); (case ga_10 => k_is); (case gg_10 => k_is); (case ca_10 => k_is); (case kC_10 => k_is)
    intro x8 m8
    refine' Vx.st_cls (x := "InvalidName") KX G ?a_11 ?l_11 ?sa_11 ?ga_11 ?gg_11 ?ca_11 ?kC_11 ?k_11
    (case a_11 => k_is); (case l_11 => k_is); (case sa_11 => k_is); (case ga_11 => k_is); (case gg_11 => k_is); (case ca_11 => k_is); (case kC_11 => k_is)
    intro x9 m9
    refine' Vx.st_cls (x := "InvalidWish") KX G ?a_12 ?l_12 ?sa_12 ?ga_12 ?gg_12 ?ca_12 ?kC_12 ?k_12
    (case a_12 => k_is); (case l_12 => k_is); (case sa_12 => k_is); (case ga_12 => k_is); (case gg_12 => k_is); (case ca_12 => k_is); (case kC_12 => k_is)
    intro x10 m10
    refine' Vx.st_cls (x := "InvalidPhrase") KX G ?a_13 ?l_13 ?sa_13 ?ga_13 ?gg_13 ?ca_13 ?kC_13 ?k_13
    (case a_13 => k_is); (case l_13 => k_is); (case sa_13 => k_is); (case ga_13 => k_is); (case gg_13 => k_is); (case ca_13 => k_is); (case kC_13 => k_is)
    intro x11 m11
    refine' Vx.st_cls (x := "UnknownName") KX G ?a_14 ?l_14 ?sa_14 ?ga_14 ?gg_14 ?ca_14 ?kC_14 ?k_14
    (case a_14 => k_is); (case l_14 => k_is); (case sa_14 => k_is); (case ga_14 => k_is); (case gg_14 => k_is); (case ca_14 => k_is); (case kC_14 => k_is)
    intro x12 m12
    refine' Vx.st_cls (x := "NotAWorkshop") KX G ?a_15 ?l_15 ?sa_15 ?ga_15 ?gg_15 ?ca_15 ?kC_15 ?k_15
    (case a_15 => k_is); (case l_15 => k_is); (case sa_15 => k_is); (case ga_15 => k_is); (case gg_15 => k_is); (case ca_15 => k_is); (case kC_15 => k_is)
    intro x13 m13
    refine' Vx.st_cls (x := "NotAZero") KX G ?a_16 ?l_16 ?sa_16 ?ga_16 ?gg_16 ?ca_16 ?kC_16 ?k_16
    (case a_16 => k_is); (case l_16 => k_is); (case sa_16 => k_is); (case ga_16 => k_is); (case gg_16 => k_is); (case ca_16 => k_is); (case kC_16 => k_is)
    intro x14 m14
    refine' Vx.st_cls (x := "InvalidBends") KX G ?a_17 ?l_17 ?sa_17 ?ga_17 ?gg_17 ?ca_17 ?kC_17 ?k_17
    (case a_17 => k_is); (case l_17 => k_is); (case sa_17 => k_is); (case ga_17 => k_is); (case gg_17 => k_is); (case ca_17 => k_is); (case kC_17 => k_is)
    intro x15 m15
    refine' Vx.st_cls (x := "InUse") KX G ?a_18 ?l_18 ?sa_18 ?ga_18 ?gg_18 ?ca_18 ?kC_18 ?k_18
    (case a_18 => k_is); (case l_18 => k_is); (case sa_18 => k_is); (case ga_18 => k_is); (case gg_18 => k_is); (case ca_18 => k_is); (case kC_18 => k_is)
    intro x16 m16
    refine' Vx.st_cls (x := "Broken") KX G ?a_19 ?l_19 ?sa_19 ?ga_19 ?gg_19 ?ca_19 ?kC_19 ?k_19
    (case a_19 => k_is); (case l_19 => k_is); (case sa_19 => k_is); (case ga_19 => k_is); (case gg_19 => k_is); (case ca_19 => k_is); (case kC_19 => k_is)
    intro x17 m17
    refine' Vx.st_cls (x := "NotSteady") KX G ?a_20 ?l_20 ?sa_20 ?ga_20 ?gg_20 ?ca_20 ?kC_20 ?k_20
    (case a_20 => k_is); (case l_20 => k_is); (case sa_20 => k_is); (case ga_20 => k_is); (case gg_20 => k_is); (case ca_20 => k_is); (case kC_20 => k_is)
    intro x18 m18
    refine' Vx.st_cls (x := "NoHelm") KX G ?a_21 ?l_21 ?sa_21 ?ga_21 ?gg_21 ?ca_21 ?kC_21 ?k_21
    (case a_21 => k_is); (case l_21 => k_is); (case sa_21 => k_is); (case ga_21 => k_is); (case gg_21 => k_is); (case ca_21 => k_is); (case kC_21 => k_is)
    intro x19 m19
    refine' Vx.st_cls (x := "NotTold") KX G ?a_22 ?l_22 ?sa_22 ?ga_22 ?gg_22 ?ca_22 ?kC_22 ?k_22
    (case a_22 => k_is); (case l_22 => k_is); (case sa_22 => k_is); (case ga_22 => k_is); (case gg_22 => k_is); (case ca_22 => k_is); (case kC_22 => k_is)
    intro x20 m20
    refine' Vx.st_cls (x := "NoughtFirst") KX G ?a_23 ?l_23 ?sa_23 ?ga_23 ?gg_23 ?ca_23 ?kC_23 ?k_23
    (case a_23 => k_is); (case l_23 => k_is); (case sa_23 => k_is); (case ga_23 => k_is); (case gg_23 => k_is); (case ca_23 => k_is); (case kC_23 => k_is)
    intro x21 m21
    refine' Vx.st_cls (x := "NothingToUndo") KX G ?a_24 ?l_24 ?sa_24 ?ga_24 ?gg_24 ?ca_24 ?kC_24 ?k_24
    (case a_24 => k_is); (case l_24 => k_is); (case sa_24 => k_is); (case ga_24 => k_is); (case gg_24 => k_is); (case ca_24 => k_is); (case kC_24 => k_is)
    intro x22 m22
    refine' Vx.st_ini Vx.ini_s0 x0 ?iC_25 ?no_25 ?tI_25 ?l_25 ?c_25 ?kk_25 ?k_25
    (case iC_25 => k_is); (case no_25 => k_is); (case tI_25 => k_is); (case l_25 => k_is); (case c_25 => k_is); (case kk_25 => k_is)
    intro i0
    refine' Vx.st_ini Vx.ini_s1 x1 ?iC_26 ?no_26 ?tI_26 ?l_26 ?c_26 ?kk_26 ?k_26
    (case iC_26 => k_is); (case no_26 => k_is); (case tI_26 => k_is); (case l_26 => k_is); (case c_26 => k_is); (case kk_26 => k_is)
    intro i1
    refine' Vx.st_ini Vx.ini_s2 x2 ?iC_27 ?no_27 ?tI_27 ?l_27 ?c_27 ?kk_27 ?k_27
    (case iC_27 => k_is); (case no_27 => k_is); (case tI_27 => k_is); (case l_27 => k_is); (case c_27 => k_is); (case kk_27 => k_is)
    intro i2
    refine' Vx.st_ini Vx.ini_s3 x3 ?iC_28 ?no_28 ?tI_28 ?l_28 ?c_28 ?kk_28 ?k_28
    (case iC_28 => k_is); (case no_28 => k_is); (case tI_28 => k_is); (case l_28 => k_is); (case c_28 => k_is); (case kk_28 => k_is)
    intro i3
    refine' Vx.st_ini Vx.ini_s4 x4 ?iC_29 ?no_29 ?tI_29 ?l_29 ?c_29 ?kk_29 ?k_29
    (case iC_29 => k_is); (case no_29 => k_is); (case tI_29 => k_is); (case l_29 => k_is); (case c_29 => k_is); (case kk_29 => k_is)
    intro i4
    refine' Vx.st_ini Vx.ini_s5 x5 ?iC_30 ?no_30 ?tI_30 ?l_30 ?c_30 ?kk_30 ?k_30
    (case iC_30 => k_is); (case no_30 => k_is); (case tI_30 => k_is); (case l_30 => k_is); (case c_30 => k_is); (case kk_30 => k_is)
    intro i5
    refine' Vx.st_ini Vx.ini_s6 x6 ?iC_31 ?no_31 ?tI_31 ?l_31 ?c_31 ?kk_31 ?k_31
    (case iC_31 => k_is); (case no_31 => k_is); (case tI_31 => k_is); (case l_31 => k_is); (case c_31 => k_is); (case kk_31 => k_is)
    intro i6
    refine' Vx.st_ini Vx.ini_s7 x7 ?iC_32 ?no_32 ?tI_32 ?l_32 ?c_32 ?kk_32 ?k_32
    (case iC_32 => k_is); (case no_32 => k_is); (case tI_32 => k_is); (case l_32 => k_is); (case c_32 => k_is); (case kk_32 => k_is)
    intro i7
    refine' Vx.st_ini Vx.ini_s8 x8 ?iC_33 ?no_33 ?tI_33 ?l_33 ?c_33 ?kk_33 ?k_33
    (case iC_33 => k_is); (case no_33 => k_is); (case tI_33 => k_is); (case l_33 => k_is); (case c_33 => k_is); (case kk_33 => k_is)
    intro i8
    refine' Vx.st_ini Vx.ini_s9 x9 ?iC_34 ?no_34 ?tI_34 ?l_34 ?c_34 ?kk_34 ?k_34
    (case iC_34 => k_is); (case no_34 => k_is); (case tI_34 => k_is); (case l_34 => k_is); (case c_34 => k_is); (case kk_34 => k_is)
    intro i9
    refine' Vx.st_ini Vx.ini_s10 x10 ?iC_35 ?no_35 ?tI_35 ?l_35 ?c_35 ?kk_35 ?k_35
    (case iC_35 => k_is); (case no_35 => k_is); (case tI_35 => k_is); (case l_35 => k_is); (case c_35 => k_is); (case kk_35 => k_is)
    intro i10
    refine' Vx.st_ini Vx.ini_s11 x11 ?iC_36 ?no_36 ?tI_36 ?l_36 ?c_36 ?kk_36 ?k_36
    (case iC_36 => k_is); (case no_36 => k_is); (case tI_36 => k_is); (case l_36 => k_is); (case c_36 => k_is); (case kk_36 => k_is)
    intro i11
    refine' Vx.st_ini Vx.ini_s12 x12 ?iC_37 ?no_37 ?tI_37 ?l_37 ?c_37 ?kk_37 ?k_37
    (case iC_37 => k_is); (case no_37 => k_is); (case tI_37 => k_is); (case l_37 => k_is); (case c_37 => k_is); (case kk_37 => k_is)
    intro i12
    refine' Vx.st_ini Vx.ini_s13 x13 ?iC_38 ?no_38 ?tI_38 ?l_38 ?c_38 ?kk_38 ?k_38
    (case iC_38 => k_is); (case no_38 => k_is); (case tI_38 => k_is); (case l_38 => k_is); (case c_38 => k_is); (case kk_38 => k_is)
    intro i13
    refine' Vx.st_ini Vx.ini_s14 x14 ?iC_39 ?no_39 ?tI_39 ?l_39 ?c_39 ?kk_39 ?k_39
    (case iC_39 => k_is); (case no_39 => k_is); (case tI_39 => k_is); (case l_39 => k_is); (case c_39 => k_is); (case kk_39 => k_is)
    intro i14
    refine' Vx.st_ini Vx.ini_s15 x15 ?iC_40 ?no_40 ?tI_40 ?l_40 ?c_40 ?kk_40 ?k_40
    (case iC_40 => k_is); (case no_40 => k_is); (case tI_40 => k_is); (case l_40 => k_is); (case c_40 => k_is); (case kk_40 => k_is)
    intro i15
    refine' Vx.st_ini Vx.ini_s16 x16 ?iC_41 ?no_41 ?tI_41 ?l_41 ?c_41 ?kk_41 ?k_41
    (case iC_41 => k_is); (case no_41 => k_is); (case tI_41 => k_is); (case l_41 => k_is); (case c_41 => k_is); (case kk_41 => k_is)
    intro i16
    refine' Vx.st_ini Vx.ini_s17 x17 ?iC_42 ?no_42 ?tI_42 ?l_42 ?c_42 ?kk_42 ?k_42
    (case iC_42 => k_is); (case no_42 => k_is); (case tI_42 => k_is); (case l_42 => k_is); (case c_42 => k_is); (case kk_42 => k_is)
    intro i17
    refine' Vx.st_def (x := "_law_reel") (st := Vx.s__law_reel) KX G ?a_43 ?l_43 ?c_43 ?kk_43 ?k_43
    (case a_43 => k_is); (case l_43 => k_is); (case c_43 => k_is); (case kk_43 => k_is)
    intro W0
    refine' Vx.st_def (x := "_law_pull") (st := Vx.s__law_pull) KX G ?a_44 ?l_44 ?c_44 ?kk_44 ?k_44
    (case a_44 => k_is); (case l_44 => k_is); (case c_44 => k_is); (case kk_44 => k_is)
    intro W1
    refine' Vx.st_def (x := "_law_one_of") (st := Vx.s__law_one_of) KX G ?a_45 ?l_45 ?c_45 ?kk_45 ?k_45
    (case a_45 => k_is); (case l_45 => k_is); (case c_45 => k_is); (case kk_45 => k_is)
    intro W2
    refine' Vx.st_def (x := "_law_with_given") (st := Vx.s__law_with_given) KX G ?a_46 ?l_46 ?c_46 ?kk_46 ?k_46
    (case a_46 => k_is); (case l_46 => k_is); (case c_46 => k_is); (case kk_46 => k_is)
    intro W3
    refine' Vx.st_def (x := "_law_with_given_named") (st := Vx.s__law_with_given_named) KX G ?a_47 ?l_47 ?c_47 ?kk_47 ?k_47
    (case a_47 => k_is); (case l_47 => k_is); (case c_47 => k_is); (case kk_47 => k_is)
    intro W4
    refine' Vx.st_def (x := "_law_with_index") (st := Vx.s__law_with_index) KX G ?a_48 ?l_48 ?c_48 ?kk_48 ?k_48
    (case a_48 => k_is); (case l_48 => k_is); (case c_48 => k_is); (case kk_48 => k_is)
    intro W5
    refine' Vx.st_def (x := "_law_with_index_named") (st := Vx.s__law_with_index_named) KX G ?a_49 ?l_49 ?c_49 ?kk_49 ?k_49
    (case a_49 => k_is); (case l_49 => k_is); (case c_49 => k_is); (case kk_49 => k_is)
    intro W6
    refine' Vx.st_def (x := "_law_bare") (st := Vx.s__law_bare) KX G ?a_50 ?l_50 ?c_50 ?kk_50 ?k_50
    (case a_50 => k_is); (case l_50 => k_is); (case c_50 => k_is); (case kk_50 => k_is)
    intro W7
    refine' Vx.st_def (x := "_law_kinds") (st := Vx.s__law_kinds) KX G ?a_51 ?l_51 ?c_51 ?kk_51 ?k_51
    (case a_51 => k_is); (case l_51 => k_is); (case c_51 => k_is); (case kk_51 => k_is)
    intro W8
    refine' Vx.st_def (x := "_law_is_under") (st := Vx.s__law_is_under) KX G ?a_52 ?l_52 ?c_52 ?kk_52 ?k_52
    (case a_52 => k_is); (case l_52 => k_is); (case c_52 => k_is); (case kk_52 => k_is)
    intro W9
    refine' Vx.st_def (x := "_law_stand") (st := Vx.s__law_stand) KX G ?a_53 ?l_53 ?c_53 ?kk_53 ?k_53
    (case a_53 => k_is); (case l_53 => k_is); (case c_53 => k_is); (case kk_53 => k_is)
    intro W10
    refine' Vx.st_def (x := "_law_thing") (st := Vx.s__law_thing) KX G ?a_54 ?l_54 ?c_54 ?kk_54 ?k_54
    (case a_54 => k_is); (case l_54 => k_is); (case c_54 => k_is); (case kk_54 => k_is)
    intro W11
    refine' Vx.st_def (x := "_law_right") (st := Vx.s__law_right) KX G ?a_55 ?l_55 ?c_55 ?kk_55 ?k_55
    (case a_55 => k_is); (case l_55 => k_is); (case c_55 => k_is); (case kk_55 => k_is)
    intro W12
    refine' Vx.st_def (x := "law") (st := Vx.s_law) KX G ?a_56 ?l_56 ?c_56 ?kk_56 ?k_56
    (case a_56 => k_is); (case l_56 => k_is); (case c_56 => k_is); (case kk_56 => k_is)
    intro W13
    refine' Vx.st_non (x := "int") KX G ?a_57 ?k_57
    (case a_57 => k_is)
    intro n_int
    refine' Vx.st_non (x := "len") KX G ?a_58 ?k_58
    (case a_58 => k_is)
    intro n_len
    refine' Vx.st_non (x := "abs") KX G ?a_59 ?k_59
    (case a_59 => k_is)
    intro n_abs
    refine' Vx.st_non (x := "divmod") KX G ?a_60 ?k_60
    (case a_60 => k_is)
    intro n_divmod
    refine' Vx.st_non (x := "range") KX G ?a_61 ?k_61
    (case a_61 => k_is)
    intro n_range
    refine' Vx.st_non (x := "min") KX G ?a_62 ?k_62
    (case a_62 => k_is)
    intro n_min
    refine' Vx.st_non (x := "max") KX G ?a_63 ?k_63
    (case a_63 => k_is)
    intro n_max
    refine' Vx.st_non (x := "all") KX G ?a_64 ?k_64
    (case a_64 => k_is)
    intro n_all
    refine' Vx.st_non (x := "repr") KX G ?a_65 ?k_65
    (case a_65 => k_is)
    intro n_repr
    refine' Vx.st_non (x := "isinstance") KX G ?a_66 ?k_66
    (case a_66 => k_is)
    intro n_isinstance
    refine' Vx.st_non (x := "ValueError") KX G ?a_67 ?k_67
    (case a_67 => k_is)
    intro n_ValueError
    refine' Vx.st_non (x := "LookupError") KX G ?a_68 ?k_68
    (case a_68 => k_is)
    intro n_LookupError
    refine' Vx.st_non (x := "TypeError") KX G ?a_69 ?k_69
    (case a_69 => k_is)
    intro n_TypeError
    refine' Vx.st_non (x := "ArithmeticError") KX G ?a_70 ?k_70
    (case a_70 => k_is)
    intro n_ArithmeticError
    refine' Vx.st_non (x := "RuntimeError") KX G ?a_71 ?k_71
    (case a_71 => k_is)
    intro n_RuntimeError
    refine' Vx.st_exc xH ?a_72 ?k_72
    (case a_72 => k_exc)
    intro eH
    refine' Vx.st_exc x18 ?a_73 ?k_73
    (case a_73 => k_exc)
    intro e18
    refine' Vx.st_exc x19 ?a_74 ?k_74
    (case a_74 => k_exc)
    intro e19
    refine' Vx.st_exc x20 ?a_75 ?k_75
    (case a_75 => k_exc)
    intro e20
    refine' Vx.st_exc x21 ?a_76 ?k_76
    (case a_76 => k_exc)
    intro e21
    refine' Vx.st_exc x22 ?a_77 ?k_77
    (case a_77 => k_exc)
    intro e22
    refine' Vx.st_g KX ?a_78 ?b_78 ?k_78
    (case a_78 => k_is); (case b_78 => k_is)
    intro g
    exact Vx.law_all hmg ⟨n_int, n_len, n_abs, n_divmod, n_range, n_min, n_max, n_all, n_repr, n_isinstance⟩
      ⟨g, xH, mH, x0, m0, x1, m1, x2, m2, x3, m3, x4, m4, x5, m5, x6, m6, x7, m7, x8, m8, x9, m9, x10, m10, x11, m11, x12, m12, x13, m13, x14, m14, x15, m15, x16, m16, x17, m17, x18, m18, x19, m19, x20, m20, x21, m21, x22, m22, i0, i1, i2, i3, i4, i5, i6, i7, i8, i9, i10, i11, i12, i13, i14, i15, i16, i17, eH, e18, e19, e20, e21, e22, by decide⟩
      ⟨n_ValueError, n_LookupError, n_TypeError, n_ArithmeticError, n_RuntimeError⟩ W0 W1 W2 W3 W4 W5 W6 W7 W8 W9 W10 W11 W12 W13
