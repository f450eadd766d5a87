import PyProof.Rows.All
import Wide.All
import OpenK.AllK
import Wide.FinOn
import KE.OsRunLaw
import PySem.Challenge.RW_unwound_k02_whole_words_and_their_roots
import KE.KNestM
import KE.KDictKeyed
import HandS.Dict
import HandS.DictTup
import HandS.TupSets
import HandS.Strs
import KE.SortData
import PyProof.Transfer
import HandS.Deep
import HandS.SortInts
import HandS.ForMost
import HandS.ForExc
import HandS.TryMany
import HandS.CallSlots
import HandS.TupAny
import HandS.TupMul
import HandS.Nested
import HandS.ExcInit
import HandS.Flow
import HandS.Walk
import HandS.Zip
import HandS.RevRange
import HandS.IsInst
import HandS.Small
import KE.GoesEnum
import HandS.Rev
import HandS.ExcField
import HandS.ExcIs
import HandS.AnyAll
import HandS.GenOver
import HandS.FStr
import KE.KExcInit
import KE.KExcIs
import HandS.Style
import HandS.Defaults
import KE.DataMinMax
import HandS.SortKw
import PyProof.Rows.TupReads
import HandS.DictComp
import HandS.WordsDict
import HandS.TupLen
import HandS.NoneIn
import PyProof.EqKinds
import PyProof.Rows.TupDisplay
import PyProof.P3Eq
import KE.GoesRaise
import KE.GoesComp
import HandS.Comp
import KE.GoesSet
import HandS.EndTab
import KE.KExcTry
import KE.KExcStr
import HandS.NestedK
import HandS.Gcd
import HandS.WideBits
import HandS.Iter
import KE.KSortKeySt
import HandS.Star
import HandS.SetKeys
import KE.KMinKey
import KE.KDictSum
import PyProof.Rows.SumGenD
import HandS.ClsMeth
import KE.KDictCopyH
import KE.KDictZip
import KE.KDictPairs
import KE.DataAny
import HandS.Conv
import PyProof.Rows.SortShellAny
import HandS.FStrTup
import KE.LtData
import KE.KIndexOf
import HandS.Text
import HandS.Replace
import PyProof.StrLawsChain
import HandS.StrMore
import HandS.ReplaceLit
import HandS.More
noncomputable section
set_option Elab.async false
namespace HeadCut
theorem cut3 {α β γ δ : Type _} {x : Option α} {fa : α → β} {fb : α → γ} {fc : α → δ} {a : β} {b : γ} {c : δ} (h1 : x.map fa = some a) (h2 : x.map fb = some b) (h3 : x.map fc = some c) : x.map (fun s => (fa s, fb s, fc s)) = some (a, b, c) := by
  cases x with
  | none => cases h1
  | some y =>
    cases h1
    cases h2
    cases h3
    rfl
end HeadCut
namespace HeadCut
end HeadCut
namespace HeadCut
open PyProof.Rows
end HeadCut
set_option linter.all false
namespace HeadCut
open PySem PySem.W PyProof.Rows
noncomputable abbrev twR := PySem.W.Fast.tw3399658132070893891
noncomputable abbrev twT := PySem.W.Fast.tw5930804224584009831
noncomputable abbrev twV := PySem.W.Fast.tw2578726214315757710
noncomputable abbrev twP := PySem.W.Fast.tw210736558901404530
theorem twR_eq : recsOf = twR := PySem.W.Fast.te3399658132070893891
theorem twT_eq : PySem.Heap.tab0Ok = twT := PySem.W.Fast.te5930804224584009831
theorem twV_eq : valsOk = twV := PySem.W.Fast.te2578726214315757710
theorem twP_eq : plainsOf = twP := PySem.W.Fast.te210736558901404530
abbrev shp (d : DefRec) : Option FnShape := some d.shape
end HeadCut
set_option maxRecDepth 100000
namespace HeadCut
open PySem PySem.W PyProof.Rows HeadRun
def fRec : Stmt → Option DefRec
  | .FunctionDef n a b _ _ _ sc _ _ pos => some ⟨n, a, b, sc, pos⟩
  | _ => none
def fMeth : Stmt → Option MethRec
  | .FunctionDef n a b _ _ _ sc _ _ _ => some ⟨n, a, b, sc⟩
  | _ => none
def fCls : Stmt → Option ClsRec
  | .ClassDef n [] _ body _ _ _ _ _ st pos => some ⟨n, none, body, st, pos.line, body.filterMap fMeth⟩
  | _ => none
noncomputable abbrev twSh := PySem.W.Fast.tw2020367076256383516
noncomputable abbrev twO := PySem.W.Fast.tw5991557255702980513
noncomputable abbrev twOwn := PySem.W.Fast.tw2817317335113233408
noncomputable abbrev twQu := PySem.W.Fast.tw16017708745293785899
noncomputable abbrev twNl := PySem.W.Fast.tw15623941606353435126
noncomputable abbrev twNd := PySem.W.Fast.tw912232860611745870
noncomputable abbrev twK := PySem.W.Fast.tw10880121769531294198
noncomputable abbrev twAc := PySem.W.Fast.tw14722251495701143533
noncomputable abbrev twTb := PySem.W.Fast.tw10994771534591457954
noncomputable abbrev twBm := PySem.W.Fast.tw5244371056499926238
noncomputable abbrev twNs := PySem.W.Fast.tw9649274521512697073
noncomputable abbrev twIn := PySem.W.Fast.tw2458874890965802552
noncomputable abbrev twPS := PySem.W.Fast.tw15717526521509864196
noncomputable abbrev twCn := PySem.W.Fast.tw1696807537771891022
theorem twCn_eq : constAt = twCn := PySem.W.Fast.te1696807537771891022
theorem twSh_eq : PySem.Heap.shapeAt = twSh := PySem.W.Fast.te2020367076256383516
theorem twO_eq : ownsOf = twO := PySem.W.Fast.te5991557255702980513
theorem twOwn_eq : PySem.Heap.ownExcOk = twOwn := PySem.W.Fast.te2817317335113233408
theorem twQu_eq : PySem.Heap.quietOk = twQu := PySem.W.Fast.te16017708745293785899
theorem twNl_eq : PySem.Heap.noLimitOk = twNl := PySem.W.Fast.te15623941606353435126
theorem twNd_eq : PySem.Heap.noDigitsOk = twNd := PySem.W.Fast.te912232860611745870
theorem twK_eq : PySem.Heap.keysOk = twK := PySem.W.Fast.te10880121769531294198
theorem twAc_eq : PySem.Heap.accountedOkI = twAc := PySem.W.Fast.te14722251495701143533
theorem twTb_eq : tablesOk = twTb := PySem.W.Fast.te10994771534591457954
theorem twBm_eq : PySem.Heap.bmainOk = twBm := PySem.W.Fast.te5244371056499926238
theorem twNs_eq : PySem.Heap.noSeerOk = twNs := PySem.W.Fast.te9649274521512697073
theorem twIn_eq : importsNone = twIn := PySem.W.Fast.te2458874890965802552
theorem twPS_eq : PySem.Heap.plainShapeAt = twPS := PySem.W.Fast.te15717526521509864196
noncomputable def fSeen (q : Program) (R : List DefRec) (PL : List ClsRec) (LW LN CN mods : List PySem.Str) (WL : List (PySem.Str × WData)) (Xt : Shared → Bool) (s : Shared) :=
  (R.map (fun d => twSh s.heap mainGlobals d.name), PL.map (fun c => twPS s.heap c.withCmp), s.heap.bltView,
   ((twO q).all fun o => twOwn s.heap o.name o.chain o.bm o.newId && twQu s.heap o.name) && (s.heap.isNs mainGlobals && s.heap.isNs builtinsNs && (twNl s.heap && twNd s.heap)),
   (twK s.heap LW (R.map (·.name)) LN CN && twAc s.heap mods && twTb q s.heap && Xt s && (s.gens.size == 0) && WL.all (twCn s.heap)),
   ((R.all fun d => twT s.heap d.name) && twBm s.heap && twV q s.heap) && (!twIn q || twNs s.heap))
noncomputable def fGood (R : List DefRec) (PL : List ClsRec) := (R.map shp, PL.map (fun c => (some c.withCmp.plainShape : Option PlainShape)), bltViewBooted, true, true, true)
theorem open_of {q : Program} {lo mods : List PySem.Str} {Xt : Shared → Bool} {s : Shared} {R : List DefRec} {PL : List ClsRec} {LW LN CN : List PySem.Str} {WL : List (PySem.Str × WData)}
    (eR : recsOf q = R) (eP : plainsOf q (looseW q lo) = PL) (eC : (clssOf q (looseW q lo)).map (·.name) = CN) (eL : looseW q lo = LW) (eN : (litsOf q).map (·.1) = LN) (eD : drecsOf q = []) (eDC : dclssOf q lo = []) (eWD : wdefsOf q = []) (eWL : wlitsOf q = WL) (eWC : wclssOf q lo = [])
    (e : fSeen q R PL LW LN CN mods WL Xt s = fGood R PL) : openSeen q lo mods Xt true s = openGood q lo := by
  unfold fSeen fGood at e
  simp only [Prod.mk.injEq] at e
  obtain ⟨a1, a7, a4, a23, a5, a6⟩ := e
  rw [← twSh_eq] at a1
  rw [← twPS_eq] at a7
  rw [← twO_eq, ← twOwn_eq, ← twQu_eq, ← twNl_eq, ← twNd_eq] at a23
  rw [← twK_eq, ← twAc_eq, ← twTb_eq, ← twCn_eq] at a5
  rw [← twT_eq, ← twBm_eq, ← twV_eq, ← twIn_eq, ← twNs_eq] at a6
  simp only [Bool.and_eq_true] at a23 a5
  obtain ⟨a2, ⟨n1, n2⟩, n3⟩ := a23
  obtain ⟨⟨⟨⟨⟨k1, k2⟩, k3⟩, k4⟩, k5⟩, k6⟩ := a5
  have s1 : seen ((recsOf q).map (·.name)) (ownsOf q) [] { s with gens := #[] } = expectedOf q := by
    unfold seen expectedOf
    have z1 : ((recsOf q).map (·.name)).map (s.heap.shapeAt mainGlobals) = (recsOf q).map fun d => some d.shape := by
      rw [eR, List.map_map]
      exact a1
    have z3 : (s.heap.noLimitOk && s.heap.noDigitsOk) = true := by rw [n3.1, n3.2]; rfl
    show Seen.mk (((recsOf q).map (·.name)).map (s.heap.shapeAt mainGlobals)) _ _ (s.heap.isNs mainGlobals) (s.heap.isNs builtinsNs) (s.heap.noLimitOk && s.heap.noDigitsOk) _ = _
    rw [z1, n1, n2, z3]
    show Seen.mk _ ((ownsOf q).all fun o => s.heap.ownExcOk o.name o.chain o.bm o.newId && s.heap.quietOk o.name) _ _ _ _ _ = _
    rw [a2]
    rfl
  have s3 : (s.heap.keysOk (looseW q lo) ((recsOf q).map (·.name)) ((litsOf q).map (·.1)) ((clssOf q (looseW q lo)).map (·.name)) && s.heap.accountedOkI mods && s.heap.isNs mainGlobals && s.heap.isNs builtinsNs && tablesOk q s.heap && Xt s && (if true then s.gens.size == 0 else !leftWithCleanup s.gens)) = true := by
    rw [eC, eL, eN, eR, k1, k2, n1, n2, k3, k4]
    exact k5
  have s4 : tabsOk q s = true := by
    unfold tabsOk
    rw [eR]
    exact a6
  have s6 : plainSeenE q (looseW q lo) s = plainGoodE q (looseW q lo) := by
    unfold plainSeenE plainGoodE
    rw [eP]
    exact a7
  have s5 : pinSeenD q (drecsOf q) s = pinGoodD (drecsOf q) := by rw [eD]; rfl
  have s7 : plainSeenD q lo s = plainGoodD q lo := by unfold plainSeenD plainGoodD; rw [eDC]; rfl
  have s8 : wideSeen q s = wideGood q := by
    unfold wideSeen wideGood
    rw [eWD, eWL, k6]
    rfl
  have s9 : clsSeenW q lo s = clsGoodW q lo := by unfold clsSeenW clsGoodW; rw [eWC]; rfl
  unfold openSeen openGood
  rw [s1, a4, s3, s4, s5, s6, s7, s8, s9]
theorem seen_of {α : Type _} {x : Option α} {f : α → Shared} {q : Program} {lo mods : List PySem.Str} {Xt : Shared → Bool} {R : List DefRec} {PL : List ClsRec} {LW LN CN : List PySem.Str} {WL : List (PySem.Str × WData)}
    (eR : recsOf q = R) (eP : plainsOf q (looseW q lo) = PL) (eC : (clssOf q (looseW q lo)).map (·.name) = CN) (eL : looseW q lo = LW) (eN : (litsOf q).map (·.1) = LN) (eD : drecsOf q = []) (eDC : dclssOf q lo = []) (eWD : wdefsOf q = []) (eWL : wlitsOf q = WL) (eWC : wclssOf q lo = [])
    (e : x.map (fun s => fSeen q R PL LW LN CN mods WL Xt (f s)) = some (fGood R PL)) : x.map (fun s => seenQ q lo mods Xt (f s)) = some (openGood q lo) := by
  cases x with
  | none => cases e
  | some y =>
    have e1 : fSeen q R PL LW LN CN mods WL Xt (f y) = fGood R PL := Option.some.inj e
    show some (seenQ q lo mods Xt (f y)) = _
    rw [← seenQ_eq, open_of eR eP eC eL eN eD eDC eWD eWL eWC e1]
end HeadCut
namespace HeadCut
open PySem PySem.W PyProof.Rows HeadRun
theorem fcut {α : Type _} {x : Option α} {f : α → Shared} {q : Program} {R : List DefRec} {PL : List ClsRec} {LW LN CN mods : List PySem.Str} {WL : List (PySem.Str × WData)} {Xt : Shared → Bool} (n : Nat)
    (r1 : x.map (fun s => (R.take n).map fun d => twSh (f s).heap mainGlobals d.name) = some ((R.take n).map shp)) (r2 : x.map (fun s => (R.drop n).map fun d => twSh (f s).heap mainGlobals d.name) = some ((R.drop n).map shp))
    (r3 : x.map (fun s => (PL.map (fun c => twPS (f s).heap c.withCmp), (f s).heap.bltView,
      ((twO q).all fun o => twOwn (f s).heap o.name o.chain o.bm o.newId && twQu (f s).heap o.name) && ((f s).heap.isNs mainGlobals && (f s).heap.isNs builtinsNs && (twNl (f s).heap && twNd (f s).heap)),
      (twK (f s).heap LW (R.map (·.name)) LN CN && twAc (f s).heap mods && twTb q (f s).heap && Xt (f s) && ((f s).gens.size == 0) && WL.all (twCn (f s).heap)))) = some (PL.map (fun c => (some c.withCmp.plainShape : Option PlainShape)), bltViewBooted, true, true))
    (r4 : x.map (fun s => (R.take n).all fun d => twT (f s).heap d.name) = some true) (r5 : x.map (fun s => ((R.drop n).all fun d => twT (f s).heap d.name) && (twBm (f s).heap && twV q (f s).heap && (!twIn q || twNs (f s).heap))) = some true) :
    x.map (fun s => fSeen q R PL LW LN CN mods WL Xt (f s)) = some (fGood R PL) := by
  cases x with
  | none => cases r1
  | some y =>
    have g1 : (R.take n).map (fun d => twSh (f y).heap mainGlobals d.name) = (R.take n).map shp := Option.some.inj r1
    have g2 : (R.drop n).map (fun d => twSh (f y).heap mainGlobals d.name) = (R.drop n).map shp := Option.some.inj r2
    have g3 := Option.some.inj r3
    have g4 : ((R.take n).all fun d => twT (f y).heap d.name) = true := Option.some.inj r4
    have g5 := Option.some.inj r5
    show some (fSeen q R PL LW LN CN mods WL Xt (f y)) = some (fGood R PL)
    simp only [Prod.mk.injEq] at g3
    obtain ⟨p1, p2, p3, p4⟩ := g3
    simp only [Bool.and_eq_true] at g5
    obtain ⟨t1, ⟨t2, t3⟩, t4⟩ := g5
    have m1 : R.map (fun d => twSh (f y).heap mainGlobals d.name) = R.map shp := by
      rw [← List.take_append_drop n R, List.map_append, List.map_append, g1, g2]
    have m2 : (R.all fun d => twT (f y).heap d.name) = true := by
      rw [← List.take_append_drop n R, List.all_append, g4, t1]
      rfl
    unfold fSeen fGood
    rw [m1, p1, p2, p3, p4, m2, t2, t3, t4]
    rfl
end HeadCut
set_option maxHeartbeats 0
namespace L02
open PySem PySem.W PySem.Calls PyProof.Rows HeadRun
noncomputable section
def qv : Program := { PySem.Challenge.pw_unwound_k02_whole_words_and_their_roots with main := { (PySem.Challenge.pw_unwound_k02_whole_words_and_their_roots).main with body := [1, 2, 4, 5, 7, 8, 9, 10, 11, 12, 13, 14, 16, 17, 18, 19, 20, 21, 22, 23, 24, 25].filterMap fun i : Nat => (PySem.Challenge.pw_unwound_k02_whole_words_and_their_roots).main.body[i]? } }
def lo : List PySem.Str := []
def LW : List PySem.Str := []
def CN : List PySem.Str := ["CanNot", "Unfit"]
def LN : List PySem.Str := []
def WL : List (PySem.Str × WData) := []
def recs : List DefRec := qv.main.body.filterMap HeadCut.fRec
def plains : List ClsRec := qv.main.body.filterMap HeadCut.fCls
abbrev rP : Program := (PySem.Challenge.rw_unwound_k02_whole_words_and_their_roots).row.prog
abbrev theRun (w : World) (os : OsState) := endF (stepQ (denQ tabQ) rP w) 2132 rP w os
abbrev SS := SharedT
abbrev sT (x : SS) : Shared := x.abs
abbrev looks0 (w : World) (x : SS) : Bool := looksF rP (boot_heap w.params) x.abs
abbrev Xt (s : Shared) : Bool := xlAt qv [] s && recOk (RowW.records (OpenRow.toRowW (PySem.Challenge.rw_unwound_k02_whole_words_and_their_roots).row)) s
end
end L02
namespace HeadCut
open PySem PySem.W PySem.Calls PyProof.Rows HeadRun
end HeadCut
namespace HeadCut
open PySem
end HeadCut
namespace HeadCut
open PySem PySem.W PySem.Calls PyProof.Rows HeadRun
theorem hold_k0S (H : Hook) (N : Nat) {r : OpenRow} (q : Program) (lo : List PySem.Str) {K : Params → Frag} {as : List Addr} {ek : ∀ P, as = (K P).map (·.1)} {d : DefRec} {M : Nat} (eH : H = kHook K as ek)
    (run : ∀ (w : World) (os : OsState), (endF (stepQ (denQ tabQ) r.prog w) M r.prog w os).map (fun x => as.map (getT x)) = some ((K w.params).map fun x => some x.2))
    (p1 : opening r.prog = plainProg r.prog.main.scope.names) (p2 : Nat.ble 600 N = true) (p3 : ∀ s, fenceModules? r.prog s = some s) (p4 : Nat.ble M N = true)
    (e1 : defOf q r.name = some (d, [])) (e2 : r.prog.theDef r.name = some (d.params, d.body, d.scope)) (e3 : kwWritten? d.params.kwonlyargs d.params.kw_defaults = some []) (e4 : (!r.writes || r.records.isEmpty) = true) (e5 : r.wellSaid = true) (e6 : (chainsOk q && opensWell r.prog && (frees r.toRowW && r.within.isEmpty)) = true) (e7 : r.prog.bare) (hw : r.toRowW.promised)
    (hc : (∀ (w : World) (os : OsState), (endF (stepQ (denQ tabQ) r.prog w) M r.prog w os).map (fun x => looksF r.prog (boot_heap w.params) x.abs) = some true) ∧
      (∀ (w : World) (os : OsState), (endF (stepQ (denQ tabQ) r.prog w) M r.prog w os).map (fun x => seenQ q lo (importedModules r.prog.main.body) (fun s => xlAt q [] s && recOk (RowW.records (OpenRow.toRowW r)) s) x.abs) = some (openGood q lo)) ∧
      WalkO q lo (XL q []) H.says r.toRowW d [] fun f vs => PySem.call f vs) : r.Holds := by
  subst eH
  exact holds_open (N := N) (Xt := fun s => xlAt q [] s && recOk (RowW.records (OpenRow.toRowW r)) s) (left_oneK (M := M) p1 p2 p3 p4 fun w os => cut3 (hc.1 w os) (hc.2.1 w os) (run w os)) (kHook K as ek).of (kHook K as ek).keeps (fun s z => xl_of s (Bool.and_eq_true_iff.mp z).1) XL.keeps e1 e2 e3 (fun s z => recFacts_of (Bool.and_eq_true_iff.mp z).2) e4 e5 e6 e7 hw hc.2.2
end HeadCut
namespace HeadCut
open PySem PySem.TablesWhole
theorem app_h (top : Scope) (cx : TablesWhole.Ctx) (sc : Scope) : ∀ l1 l2 : List Stmt, wSs holds top cx sc (l1 ++ l2) = (wSs holds top cx sc l1 && wSs holds top cx sc l2)
  | [], l2 => by rw [List.nil_append, wSs]; rfl
  | s :: l1, l2 => by
    rw [List.cons_append, wSs, wSs, app_h top cx sc l1 l2]
    show (wS holds top cx sc s && (wSs holds top cx sc l1 && wSs holds top cx sc l2)) = ((wS holds top cx sc s && wSs holds top cx sc l1) && wSs holds top cx sc l2)
    rw [Bool.and_assoc]
theorem app_g (top : Scope) (cx : TablesWhole.Ctx) (sc : Scope) : ∀ l1 l2 : List Stmt, wSs gather top cx sc (l1 ++ l2) = wSs gather top cx sc l1 ++ wSs gather top cx sc l2
  | [], l2 => by rw [List.nil_append, wSs]; rfl
  | s :: l1, l2 => by
    rw [List.cons_append, wSs, wSs, app_g top cx sc l1 l2]
    show wS gather top cx sc s ++ (wSs gather top cx sc l1 ++ wSs gather top cx sc l2) = (wS gather top cx sc s ++ wSs gather top cx sc l1) ++ wSs gather top cx sc l2
    rw [List.append_assoc]
def qPart (n : Nat) (l : List Stmt) : Nat → List Stmt
  | 0 => l.take n
  | 1 => (l.drop n).take n
  | 2 => ((l.drop n).drop n).take n
  | _ => ((l.drop n).drop n).drop n
theorem q_app (n : Nat) (l : List Stmt) : qPart n l 0 ++ (qPart n l 1 ++ (qPart n l 2 ++ qPart n l 3)) = l := by
  show l.take n ++ ((l.drop n).take n ++ (((l.drop n).drop n).take n ++ ((l.drop n).drop n).drop n)) = l
  rw [List.take_append_drop, List.take_append_drop, List.take_append_drop]
abbrev wG (p : Program) (n k : Nat) : List Str := wSs gather p.main.scope ⟨p.main.scope, [], [], [], none⟩ p.main.scope (qPart n p.main.body k)
abbrev wH (p : Program) (n k : Nat) : Bool := wSs holds p.main.scope ⟨p.main.scope, [], [], [], none⟩ p.main.scope (qPart n p.main.body k)
theorem whole_of {p : Program} (n : Nat) (m : p.modules = []) (a : p.parses = []) (v : p.harvested = []) (t : noTwice p.main.scope = true)
    (g0 : wG p n 0 = []) (g1 : wG p n 1 = []) (g2 : wG p n 2 = []) (g3 : wG p n 3 = [])
    (h0 : wH p n 0 = true) (h1 : wH p n 1 = true) (h2 : wH p n 2 = true) (h3 : wH p n 3 = true) : p.tablesWhole = true := by
  dsimp only [wG] at g0 g1 g2 g3
  dsimp only [wH] at h0 h1 h2 h3
  have g : wSs gather p.main.scope ⟨p.main.scope, [], [], [], none⟩ p.main.scope p.main.body = [] := by
    rw [← q_app n p.main.body, app_g, app_g, app_g, g0, g1, g2, g3]
    rfl
  have h : wSs holds p.main.scope ⟨p.main.scope, [], [], [], none⟩ p.main.scope p.main.body = true := by
    rw [← q_app n p.main.body, app_h, app_h, app_h, h0, h1, h2, h3]
    rfl
  unfold Program.tablesWhole wProgram wModule
  rw [m, a, v]
  dsimp only
  rw [g, h, t]
  rfl
end HeadCut
namespace L02
open PySem PySem.W PySem.Calls PyProof.Rows HeadRun
def dl : DefRec := topDef rP 25
abbrev bigN : Nat := 2832
theorem p1 : opening rP = plainProg rP.main.scope.names := by kernel_rfl
theorem p2 : Nat.ble 600 bigN = true := by rfl
theorem p3 : ∀ s, fenceModules? rP s = some s := fun s => by kernel_rfl
theorem p4 : Nat.ble 2132 bigN = true := by rfl
theorem e_def : defOf qv (PySem.Challenge.rw_unwound_k02_whole_words_and_their_roots).row.name = some (dl, []) := by kernel_rfl
theorem e_the : rP.theDef (PySem.Challenge.rw_unwound_k02_whole_words_and_their_roots).row.name = some (dl.params, dl.body, dl.scope) := by kernel_rfl
theorem e_kw : kwWritten? dl.params.kwonlyargs dl.params.kw_defaults = some [] := by kernel_rfl
theorem e_ok : (chainsOk qv && opensWell rP && (frees (OpenRow.toRowW (PySem.Challenge.rw_unwound_k02_whole_words_and_their_roots).row) && (PySem.Challenge.rw_unwound_k02_whole_words_and_their_roots).row.within.isEmpty)) = true := by decide +kernel
theorem b_g0 : HeadCut.wG rP 7 0 = [] := by kernel_rfl
theorem b_h0 : HeadCut.wH rP 7 0 = true := by kernel_rfl
theorem b_g1 : HeadCut.wG rP 7 1 = [] := by kernel_rfl
theorem b_h1 : HeadCut.wH rP 7 1 = true := by kernel_rfl
theorem b_g2 : HeadCut.wG rP 7 2 = [] := by kernel_rfl
theorem b_h2 : HeadCut.wH rP 7 2 = true := by kernel_rfl
theorem b_g3 : HeadCut.wG rP 7 3 = [] := by kernel_rfl
theorem b_h3 : HeadCut.wH rP 7 3 = true := by kernel_rfl
theorem b_t : PySem.TablesWhole.noTwice rP.main.scope = true := by kernel_rfl
theorem e_bare : rP.bare := ⟨rfl, rfl, rfl, rfl, rfl, HeadCut.whole_of 7 rfl rfl rfl b_t b_g0 b_g1 b_g2 b_g3 b_h0 b_h1 b_h2 b_h3⟩
end L02
section
open PySem PySem.W PyProof.Rows
local macro_rules | `(tactic| o_head $H:term) => do { let hw := Lean.mkIdent `hw; let hc := Lean.mkIdent `hc; `(tactic| refine HeadCut.hold_k0S $H L02.bigN L02.qv L02.lo rfl (fun w os => (by kernel_rfl)) L02.p1 L02.p2 L02.p3 L02.p4 L02.e_def L02.e_the L02.e_kw rfl (by assumption) L02.e_ok L02.e_bare ?$hw ?$hc) }
set_option maxRecDepth 100000 in
set_option maxHeartbeats 0 in
open_top L02.hd for PySem.Challenge.rw_unwound_k02_whole_words_and_their_roots
end
namespace L02
open PySem PySem.W PySem.Calls PyProof.Rows HeadRun
theorem facts : (HeadCut.twR qv, HeadCut.twP qv (PySem.W.Fast.tw821141287760084731 qv lo), (PySem.W.Fast.tw13664370479719496447 qv (PySem.W.Fast.tw821141287760084731 qv lo)).map (·.name), PySem.W.Fast.tw821141287760084731 qv lo, (PySem.W.Fast.tw7409074990110511671 qv).map (·.1), PySem.W.Fast.tw3247288618530077131 qv, PySem.W.Fast.tw4354255287344443571 qv lo, PySem.W.Fast.tw694669760492028198 qv, PySem.W.Fast.tw11925523677476243305 qv, PySem.W.Fast.tw1571739515156823405 qv lo) = (recs, plains, CN, LW, LN, [], [], [], WL, []) := by kernel_rfl
theorem factsP : recsOf qv = recs ∧ plainsOf qv (looseW qv lo) = plains ∧ (clssOf qv (looseW qv lo)).map (·.name) = CN ∧ looseW qv lo = LW ∧ (litsOf qv).map (·.1) = LN ∧ drecsOf qv = [] ∧ dclssOf qv lo = [] ∧ wdefsOf qv = [] ∧ wlitsOf qv = WL ∧ wclssOf qv lo = [] := by
  have e := facts
  rw [← HeadCut.twR_eq, ← HeadCut.twP_eq, ← PySem.W.Fast.te821141287760084731, ← PySem.W.Fast.te13664370479719496447, ← PySem.W.Fast.te7409074990110511671, ← PySem.W.Fast.te3247288618530077131, ← PySem.W.Fast.te4354255287344443571, ← PySem.W.Fast.te694669760492028198, ← PySem.W.Fast.te11925523677476243305, ← PySem.W.Fast.te1571739515156823405] at e
  simp only [Prod.mk.injEq] at e
  exact e
end L02
namespace L02
open PySem PySem.W PySem.Calls PyProof.Rows HeadRun
theorem h0 (w : World) (os : OsState) : (theRun w os).map (looks0 w) = some true := by kernel_rfl
end L02
namespace L02
open PySem PySem.W PySem.Calls PyProof.Rows HeadRun
theorem hr1 (w : World) (os : OsState) : (theRun w os).map (fun x => (recs.take 13).map fun d => HeadCut.twSh (sT x).heap mainGlobals d.name) = some ((recs.take 13).map HeadCut.shp) := by kernel_rfl
end L02
namespace L02
open PySem PySem.W PySem.Calls PyProof.Rows HeadRun
theorem hr2 (w : World) (os : OsState) : (theRun w os).map (fun x => (recs.drop 13).map fun d => HeadCut.twSh (sT x).heap mainGlobals d.name) = some ((recs.drop 13).map HeadCut.shp) := by kernel_rfl
end L02
namespace L02
open PySem PySem.W PySem.Calls PyProof.Rows HeadRun
theorem hr3 (w : World) (os : OsState) : (theRun w os).map (fun x => (plains.map (fun c => HeadCut.twPS (sT x).heap c.withCmp), (sT x).heap.bltView, ((HeadCut.twO qv).all fun o => HeadCut.twOwn (sT x).heap o.name o.chain o.bm o.newId && HeadCut.twQu (sT x).heap o.name) && ((sT x).heap.isNs mainGlobals && (sT x).heap.isNs builtinsNs && (HeadCut.twNl (sT x).heap && HeadCut.twNd (sT x).heap)), (HeadCut.twK (sT x).heap LW (recs.map (·.name)) LN CN && HeadCut.twAc (sT x).heap (importedModules rP.main.body) && HeadCut.twTb qv (sT x).heap && Xt (sT x) && ((sT x).gens.size == 0) && WL.all (HeadCut.twCn (sT x).heap)))) = some (plains.map (fun c => (some c.withCmp.plainShape : Option PlainShape)), bltViewBooted, true, true) := by kernel_rfl
end L02
namespace L02
open PySem PySem.W PySem.Calls PyProof.Rows HeadRun
theorem hr4 (w : World) (os : OsState) : (theRun w os).map (fun x => (recs.take 13).all fun d => HeadCut.twT (sT x).heap d.name) = some (true) := by kernel_rfl
end L02
namespace L02
open PySem PySem.W PySem.Calls PyProof.Rows HeadRun
theorem hr5 (w : World) (os : OsState) : (theRun w os).map (fun x => ((recs.drop 13).all fun d => HeadCut.twT (sT x).heap d.name) && (HeadCut.twBm (sT x).heap && HeadCut.twV qv (sT x).heap && (!HeadCut.twIn qv || HeadCut.twNs (sT x).heap))) = some (true) := by kernel_rfl
end L02
namespace L02
open PySem PySem.W PySem.Calls PyProof.Rows HeadRun
theorem hsq {q : Program} (e : qv = q) (w : World) (os : OsState) : (theRun w os).map (fun x => seenQ q lo (importedModules rP.main.body) (fun s => xlAt q [] s && recOk (RowW.records (OpenRow.toRowW (PySem.Challenge.rw_unwound_k02_whole_words_and_their_roots).row)) s) x.abs) = some (openGood q lo) := by
  subst e
  obtain ⟨e1, e2, e3, e4, e5, e6, e7, e8, e9, e10⟩ := factsP
  exact HeadCut.seen_of e1 e2 e3 e4 e5 e6 e7 e8 e9 e10 (HeadCut.fcut 13 (hr1 w os) (hr2 w os) (hr3 w os) (hr4 w os) (hr5 w os))
end L02
set_option maxHeartbeats 2000000
set_option autoImplicit false
namespace EV
open PySem PySem.Spec PyProof.Rows L2
inductive Nk (K : PySem.W.Frag) (H : Hp) : NestedKey → V → Prop
  | non : Nk K H .none .non
  | bl (b : Bool) : Nk K H (.num (if b = true then 1 else 0)) (.bl b)
  | int (i : Int) : Nk K H (.num i) (.int i)
  | str (x : Str) : Nk K H (.text x) (.str x)
  | tup {a : Addr} {xs : List V} {ks : List NestedKey} : SqT K H a xs → ks.length = xs.length → (∀ (j : Nat) (k : NestedKey) (x : V), ks[j]? = some k → xs[j]? = some x → Nk K H k x) → Nk K H (.tup ks) (.ref a)
theorem all_nk {h : Heap} : ∀ {ks : List NestedKey} {us : List Value}, ks.length = us.length → (∀ (j : Nat) (k : NestedKey) (u : Value), ks[j]? = some k → us[j]? = some u → NestedIs h k u) → NestedAll h ks us
  | [], [], _, _ => .nil
  | k :: ks, u :: us, hl, f => .cons (f 0 k u rfl rfl) (all_nk (by simpa using hl) fun j k u h1 h2 => f (j + 1) k u (by simpa using h1) (by simpa using h2))
theorem Nk.is {X : Cx} {pins : List (Addr × Obj)} {σ : L2.St} {H : Hp} {s : Shared} (I : Inv X pins σ H s) {k : NestedKey} {v : V} (n : Nk X.K H k v) : ∀ u, RelV v u → NestedIs s.heap k u := by
  induction n with
  | non => intro u r; cases r; exact .none
  | bl b => intro u r; cases r; exact .bool rfl
  | int i => intro u r; obtain ⟨t, rfl⟩ := r; exact .int i t
  | str x => intro u r; obtain ⟨t, rfl⟩ := r; exact .text x t
  | @tup a xs ks hq hl f ih =>
    intro u r
    obtain rfl : u = Value.ref a := r
    obtain ⟨its, rv, ⟨o, e, hc, n, hd⟩, _⟩ := I.tuple hq
    refine .tup e hc hd (all_nk (by rw [List.toList_toArray, ← rv.length]; exact hl) fun j k w h1 h2 => ?_)
    have hj : j < xs.length := by rw [← hl]; exact (List.getElem?_eq_some_iff.mp h1).1
    obtain ⟨w', hw', rw'⟩ := rv.get (List.getElem?_eq_getElem hj)
    have : w' = w := by
      rw [List.toList_toArray] at h2
      rw [h2] at hw'
      exact (Option.some.inj hw').symm
    subst this
    exact ih j k xs[j] h1 (List.getElem?_eq_getElem hj) _ rw'
abbrev Dn := List (NestedKey × Addr × V)
def PR (p : NestedKey × Addr × V) (q : NestedKey × Addr × Value) : Prop := p.1 = q.1 ∧ p.2.1 = q.2.1 ∧ RelV p.2.2 q.2.2
def DnP (P : Program) (w : World) (a : Addr) (xs : Dn) (h : Heap) : Prop := xs.length ≤ sizeLine ∧ (a == sysModules) = false ∧ ∃ ys, Paired PR xs ys ∧ ∃ o es ep, h.get? a = some o ∧ o.ExactDict ∧ o.data = .dict es ep ∧ es.toList = ys.map (entryOfKey (nestedKind P w)) ∧ (ys.map (·.1)).Nodup
def dnO (P : Program) (w : World) (a : Addr) (xs : Dn) : HO := .ext (DnP P w a xs)
theorem dn_ok {P : Program} {w : World} {H : Hp} {h : Heap} {a : Addr} {xs : Dn} (x : DnP P w a xs h) : ObjOk P w H h a (dnO P w a xs) :=
  ⟨x, let ⟨_, _, _, _, o, _, _, e, _⟩ := x; ⟨o, e⟩, fun h1 h2 ⟨z1, z2, ys, z3, o, es, ep, e, r⟩ k => ⟨z1, z2, ys, z3, o, es, ep, k _ e, r⟩⟩
structure DnAt (P : Program) (w : World) (K : PySem.W.Frag) (H : Hp) (a : Addr) (xs : Dn) : Prop where
  obj : H a = some (dnO P w a xs) ∨ (xs = [] ∧ H a = some (.dK []))
  key : ∀ x ∈ xs, Nk K H x.1 (.ref x.2.1) ∧ x.1.depth ≤ 8
def atV (xs : Dn) (k : NestedKey) : Option (Addr × V) := (xs.find? fun x => decide (x.1 = k)).map (·.2)
def putV (xs : Dn) (k : NestedKey) (a : Addr) (v : V) : Dn := if (atV xs k).isSome then xs.map (fun x => if x.1 = k then (x.1, x.2.1, v) else x) else xs ++ [(k, a, v)]
theorem atV_rel : ∀ {xs : Dn} {ys : List (NestedKey × Addr × Value)}, Paired PR xs ys → ∀ k, (atV xs k = none ∧ atKey ys k = none) ∨ ∃ p q, atV xs k = some p ∧ atKey ys k = some q ∧ p.1 = q.1 ∧ RelV p.2 q.2
  | _, _, .nil, k => .inl ⟨rfl, rfl⟩
  | x :: xs, y :: ys, .cons h t, k => by
    obtain ⟨h1, h2, h3⟩ := h
    unfold atV atKey
    rw [List.find?_cons, List.find?_cons, ← h1]
    by_cases c : x.1 = k
    · rw [decide_eq_true c]
      exact .inr ⟨x.2, y.2, rfl, rfl, h2, h3⟩
    · rw [decide_eq_false c]
      exact atV_rel t k
theorem Paired.app1 {α β : Type} {F : α → β → Prop} {a : α} {b : β} (h : F a b) : ∀ {xs : List α} {ys : List β}, Paired F xs ys → Paired F (xs ++ [a]) (ys ++ [b])
  | _, _, .nil => .cons h .nil
  | _, _, .cons r t => .cons r (Paired.app1 h t)
theorem put_map {k : NestedKey} {v : V} {u : Value} (r : RelV v u) : ∀ {xs : Dn} {ys : List (NestedKey × Addr × Value)}, Paired PR xs ys → Paired PR (xs.map (fun x => if x.1 = k then (x.1, x.2.1, v) else x)) (ys.map (putAt k u))
  | _, _, .nil => .nil
  | x :: xs, y :: ys, .cons h t => by
    obtain ⟨h1, h2, h3⟩ := h
    refine .cons ?_ (put_map r t)
    unfold putAt
    rw [← h1]
    dsimp only
    by_cases c : x.1 = k
    · rw [if_pos c, if_pos c]; exact ⟨rfl, h2, r⟩
    · rw [if_neg c, if_neg c]; exact ⟨h1, h2, h3⟩
theorem put_rel {xs : Dn} {ys : List (NestedKey × Addr × Value)} {k : NestedKey} {b : Addr} {v : V} {u : Value} (h : Paired PR xs ys) (r : RelV v u) : Paired PR (putV xs k b v) (storedH ys k b u) := by
  unfold putV storedH
  rcases atV_rel h k with ⟨e1, e2⟩ | ⟨p, q, e1, e2, _⟩
  · rw [e1, e2]; exact Paired.app1 ⟨rfl, rfl, r⟩ h
  · rw [e1, e2]; exact put_map r h
theorem putV_length (xs : Dn) (k : NestedKey) (b : Addr) (v : V) : (putV xs k b v).length ≤ xs.length + 1 := by
  unfold putV
  split
  · rw [List.length_map]; omega
  · rw [List.length_append]; exact Nat.le_refl _
section
variable {X : Cx} {pins : List (Addr × Obj)} {σ : L2.St} {H : Hp} {s : Shared} {a b : Addr} {xs : Dn} {k : NestedKey} {A : Around} {E : Value → Shared → Prop}
theorem dn_of (I : Inv X pins σ H s) (D : DnAt X.prog X.w X.K H a xs) : xs.length ≤ sizeLine ∧ (a == sysModules) = false ∧ ∃ ys, Paired PR xs ys ∧ s.heap.DictOfH (nestedKind X.prog X.w) a ys := by
  have keys : ∀ {ys : List (NestedKey × Addr × Value)}, Paired PR xs ys → ∀ y ∈ ys, (nestedKind X.prog X.w).is s.heap y.1 y.2.1 := by
    intro ys p y hy
    have key := D.key
    clear D
    induction p with
    | nil => cases hy
    | @cons x z xs zs h t ih =>
      rcases List.mem_cons.mp hy with rfl | hy
      · obtain ⟨k1, k2⟩ := key x (List.mem_cons_self ..)
        obtain ⟨h1, h2, _⟩ := h
        rw [← h1, ← h2]
        exact ⟨k1.is I _ rfl, k2⟩
      · exact ih hy fun x hx => key x (List.mem_cons_of_mem _ hx)
  rcases D.obj with e | ⟨rfl, e⟩
  · have z : ObjOk X.prog X.w H s.heap a (.ext (DnP X.prog X.w a xs)) := I.hok a _ e
    obtain ⟨z1, z2, ys, z3, o, es, ep, e1, e2, e3, e4, e5⟩ := z.1
    exact ⟨z1, z2, ys, z3, o, es, ep, e1, e2, e3, e4, keys z3, e5⟩
  · obtain ⟨z, hd, vs, rel, o, es, ep, e1, e2, e3, _, e5, _⟩ := dk_of I.hok e
    have hv : vs = [] := by
      have := rel.length
      cases vs with
      | nil => rfl
      | cons _ _ => simp at this
    subst hv
    have hes : es.toList = [] := by
      cases q : es.toList with
      | nil => rfl
      | cons y ys => rw [q] at e5; cases e5
    exact ⟨Nat.zero_le _, hd, [], .nil, o, es, ep, e1, e2, e3, by rw [hes]; rfl, fun x hx => (nomatch hx), List.nodup_nil⟩
theorem dn_get {p : Addr × V} {Q : Value → Shared → Prop} (hu : A.units + 9 < cLine) (I : Inv X pins σ H s) (D : DnAt X.prog X.w X.K H a xs) (hk : Nk X.K H k (.ref b)) (hd : k.depth ≤ 8) (hp : atV xs k = some p) (h : ∀ u s', Inv X pins σ H s' → RelV p.2 u → Q u s') :
    wpAny (model X.prog X.w) A (getItem (.ref a) (.ref b)) Q E s := by
  obtain ⟨_, hs, ys, rel, dd⟩ := dn_of I D
  rcases atV_rel rel k with ⟨e1, e2⟩ | ⟨p', q, e1, e2, _, rv⟩
  · rw [hp] at e1; cases e1
  · rw [hp] at e1; cases e1
    exact wpAny_getItem_heap (knd := nestedKind X.prog X.w) (k := k) (by show A.units + 1 + 8 < cLine; omega) ⟨hk.is I _ rfl, hd⟩ dd e2 (h _ _ (I.tok _) rv)
theorem dn_set {v : V} {u : Value} {Q : Unit → Shared → Prop} (hu : A.units + 9 < cLine) (I : Inv X pins σ H s) (D : DnAt X.prog X.w X.K H a xs) (hk : Nk X.K H k (.ref b)) (hd : k.depth ≤ 8) (hl : xs.length < sizeLine) (rv : RelV v u)
    (h : ∀ s', Inv X pins σ (upd H a (dnO X.prog X.w a (putV xs k b v))) s' → Q () s') : wpAny (model X.prog X.w) A (setItem (.ref a) (.ref b) u) Q E s := by
  obtain ⟨hz, hs, ys, rel, dd⟩ := dn_of I D
  have hly : ys.length ≤ sizeLine := by rw [← Paired.length rel]; exact hz
  refine wpAny_setItem_heap (knd := nestedKind X.prog X.w) (k := k) (hsz := hly) (by show A.units + 1 + 8 < cLine; omega) ⟨hk.is I _ rfl, hd⟩ dd fun h' hm' hs' => h _ ?_
  obtain ⟨o, es, ep, e1, e2, e3, e4, e5, e6⟩ := hm'
  refine d_write I ?_ hs' ⟨o, e1⟩ (dn_ok ⟨Nat.le_trans (putV_length ..) hl, hs, _, put_rel rel rv, o, es, ep, e1, e2, e3, e4, e6⟩)
  rcases D.obj with e | ⟨_, e⟩
  · rw [e]; exact True.intro
  · rw [e]; exact True.intro
end
end EV
namespace EV
open PySem PySem.Spec PyProof.Rows L2
def KeyAt (h : Heap) (k : NestedKey) (b : Addr) : Prop := NestedIs h k (.ref b) ∧ k.depth ≤ 8
section
variable {P : Program} {w : World}
def Clear (P : Program) (w : World) (n : Nat) (s : Shared) (v : Value) : Prop := ∀ (A : Around) (E : Value → Shared → Prop) (Q : Bool → Shared → Prop), Q false s → wpAny (model P w) A (ofAClassStatement n v) Q E s
def Told (P : Program) (w : World) (n : Nat) (s : Shared) (v : Value) : Prop := ∀ (A : Around) (E : Value → Shared → Prop) (Q : Bool → Shared → Prop), (∀ b, Q b s) → wpAny (model P w) A (hashByValue n v) Q E s
theorem Clear.tup {n : Nat} {s : Shared} {a : Addr} {o : Obj} {vs : Array Value} {m : Nat} (e : s.heap.get? a = some o) (c : o.cls = .type "tuple") (d : o.data = .seq vs m) (each : ∀ v ∈ vs.toList, Clear P w n s v) : Clear P w (n + 1) s (.ref a) := fun A E Q q => by
  unfold ofAClassStatement
  refine wpAny_bind (wpAny_typeOf (T := "tuple") ⟨o, e, c⟩ ?_)
  simp only [beq_self_eq_true, if_true]
  refine wpAny_bind (wpAny_pure ?_)
  simp only [Bool.not_true, Bool.false_eq_true, if_false]
  refine wpAny_bind (wpAny_seqItems e d (wpAny_bind ?_))
  show wpAny _ _ (forIn vs _ _) _ _ s
  rw [← Array.forIn_toList]
  refine wpAny_forIn_list _ (fun l r z => r.1 = none ∧ z = s ∧ ∀ v ∈ l, Clear P w n s v) _ (fun v l r z y => ?_) (fun r z y => ?_) _ _ ⟨rfl, rfl, each⟩
  · obtain ⟨e0, rfl, f⟩ := y
    refine wpAny_bind (f v (List.mem_cons_self ..) _ _ _ ?_)
    simp only [Bool.false_eq_true, if_false]
    exact wpAny_pure ⟨rfl, rfl, fun u m => f u (List.mem_cons_of_mem _ m)⟩
  · obtain ⟨r1, r2⟩ := r
    obtain ⟨e0, rfl, _⟩ := y
    cases e0
    exact wpAny_pure q
theorem Told.tup {n : Nat} {s : Shared} {a : Addr} {o : Obj} {vs : Array Value} {m : Nat} (e : s.heap.get? a = some o) (c : o.cls = .type "tuple") (d : o.data = .seq vs m) (each : ∀ v ∈ vs.toList, Told P w n s v) : Told P w (n + 1) s (.ref a) := fun A E Q q => by
  unfold hashByValue
  refine wpAny_bind (wpAny_specialOf (T := "tuple") ⟨o, e, c⟩ F.slot_tuple_hash.lookup ?_)
  show wpAny _ _ (seqItems? (.ref a) >>= _) _ _ s
  refine wpAny_bind (wpAny_seqItems e d (wpAny_bind ?_))
  show wpAny _ _ (forIn vs _ _) _ _ s
  rw [← Array.forIn_toList]
  refine wpAny_forIn_list _ (fun l r z => z = s ∧ ∀ v ∈ l, Told P w n s v) _ (fun v l r z y => ?_) (fun r z y => ?_) _ _ ⟨rfl, each⟩
  · obtain ⟨rfl, f⟩ := y
    refine wpAny_bind (f v (List.mem_cons_self ..) _ _ _ fun b => ?_)
    cases b with
    | true =>
      simp only [Bool.not_true, Bool.false_eq_true, if_false]
      exact wpAny_pure ⟨rfl, fun u m => f u (List.mem_cons_of_mem _ m)⟩
    | false =>
      simp only [Bool.not_false, if_true]
      exact wpAny_pure (wpAny_pure (q _))
  · obtain ⟨r1, r2⟩ := r
    obtain ⟨rfl, _⟩ := y
    cases r1 with
    | none => exact wpAny_pure (q _)
    | some b => exact wpAny_pure (q b)
theorem KeyAt.stay {h h' : Heap} {k : NestedKey} {b : Addr} (x : KeyAt h k b) (f : ∀ c o vs n, h.get? c = some o → o.data = .seq vs n → h'.get? c = some o) : KeyAt h' k b := ⟨x.1.at f, x.2⟩
theorem KeyAt.one {h : Heap} {j k : NestedKey} {b : Addr} (x : KeyAt h j b) (y : KeyAt h k b) : j = k := x.1.inj _ _ _ y.1
end
end EV
set_option maxHeartbeats 4000000
namespace EV
open PySem PySem.Spec PyProof.Rows L2
abbrev Mem := List (NestedKey × Addr)
def rowK (w : World) (p : NestedKey × Addr) : Int × Value := (p.1.hash w, .ref p.2)
def hsK (w : World) (l : Mem) : List Int := l.map fun p => p.1.hash w
structure StN (w : World) (h : Heap) (a : Addr) (l : Mem) (es : Array (Int × Value)) (ep : Nat) (t : SetTable) : Prop where
  ob : ∃ o, h.get? a = some o ∧ o.ExactSet ∧ o.data = .set es ep t
  rows : es.toList = l.map (rowK w)
  tab : TabOk t (hsK w l)
  nd : (l.map (·.1)).Nodup
  led : w.params.followText "set-order" = true ∨ t.led = true
  room : l.length * 5 < t.mask * 3
  few : l.length < 64
section
variable {P : Program} {w : World} {A : Around} {E : Value → Shared → Prop} {s : Shared} {a : Addr} {l : Mem} {es : Array (Int × Value)} {ep : Nat} {t : SetTable} {h : Heap}
theorem StN.size (R : StN w h a l es ep t) : es.size = l.length := by
  rw [← Array.length_toList, R.rows, List.length_map]
theorem hsK_len (w : World) (l : Mem) : (hsK w l).length = l.length := List.length_map ..
theorem fits_of {t : SetTable} {l : Mem} {n : Nat} (T : TabOk t (hsK w l)) (r : l.length ≤ t.mask) (e : n = l.length) : t.fits n = true := by
  subst e
  have z := T.sz
  rw [hsK_len] at z
  unfold SetTable.fits SetTable.fill
  simp only [T.dm, z, beq_self_eq_true, Bool.true_and, decide_eq_true_eq]
  exact r
theorem StN.fits (R : StN w h a l es ep t) : t.fits es.size = true := fits_of R.tab (by have := R.room; omega) R.size
theorem StN.ent (R : StN w h a l es ep t) {i : Nat} {p : NestedKey × Addr} (e : l[i]? = some p) : es[i]? = some (rowK w p) := by
  rw [← Array.getElem?_toList, R.rows, List.getElem?_map, e]; rfl
end
end EV
namespace EV
open PySem PySem.Spec PyProof.Rows L2
section
variable {P : Program} {w : World} {A : Around} {E : Value → Shared → Prop} {s : Shared} {a : Addr} {l : Mem} {es : Array (Int × Value)} {ep : Nat} {t : SetTable} {h : Heap}
end
end EV
namespace EV
open PySem PySem.Spec PyProof.Rows L2
def newS (w : World) : Obj := { cls := .type "set", dict := none, data := .set #[] 0 (.fresh 0 0 (!w.params.followText "set-order")) }
section
variable {P : Program} {w : World} {A : Around} {E : Value → Shared → Prop} {s : Shared}
structure Fills (P : Program) (w : World) (A : Around) (S I : Addr) (n : Nat) (Pv : Nat → Value → Prop) (J : Nat → Heap → Prop) : Prop where
  stay : ∀ (i : Nat) (h h' : Heap), J i h → (∀ b o, b ≠ I → h.get? b = some o → h'.get? b = some o) → J i h'
  add : ∀ (i : Nat) (v : Value) (z : Shared) (E : Value → Shared → Prop) (Q : Bool → Shared → Prop), i < n → Pv i v → J i z.heap → (∀ c h' m, Heap.SameBut S z.heap h' → z.toks ≤ m → J (i + 1) h' → Q c { z with heap := h', toks := m }) → wpAny (model P w) A (setAdd S v) Q E z
end
end EV
namespace EV
open PySem PySem.Spec PyProof.Rows L2
def SnP (w : World) (a : Addr) (l : Mem) (h : Heap) : Prop := ∃ l' es ep t, l'.Perm l ∧ StN w h a l' es ep t
def snO (w : World) (a : Addr) (l : Mem) : HO := .ext (SnP w a l)
def MemK (K : PySem.W.Frag) (H : Hp) (l : Mem) : Prop := ∀ p ∈ l, Nk K H p.1 (.ref p.2) ∧ p.1.depth ≤ 8
def putM (l : Mem) (k : NestedKey) (b : Addr) : Mem := if k ∈ l.map (·.1) then l else l ++ [(k, b)]
theorem StN.at {w : World} {h h' : Heap} {a : Addr} {l : Mem} {es : Array (Int × Value)} {ep : Nat} {t : SetTable} (R : StN w h a l es ep t) (f : ∀ o, h.get? a = some o → h'.get? a = some o) : StN w h' a l es ep t :=
  ⟨let ⟨o, e, r⟩ := R.ob; ⟨o, f o e, r⟩, R.rows, R.tab, R.nd, R.led, R.room, R.few⟩
theorem SnP.at {w : World} {h h' : Heap} {a : Addr} {l : Mem} (x : SnP w a l h) (f : ∀ o, h.get? a = some o → h'.get? a = some o) : SnP w a l h' := by
  obtain ⟨l', es, ep, t, pm, R⟩ := x
  exact ⟨l', es, ep, t, pm, R.at f⟩
theorem SnP.ob {w : World} {h : Heap} {a : Addr} {l : Mem} (x : SnP w a l h) : ∃ o, h.get? a = some o := by
  obtain ⟨l', es, ep, t, pm, R⟩ := x
  obtain ⟨o, e, _⟩ := R.ob
  exact ⟨o, e⟩
theorem sn_ok {P : Program} {w : World} {H : Hp} {h : Heap} {a : Addr} {l : Mem} (x : SnP w a l h) : ObjOk P w H h a (snO w a l) := ⟨x, x.ob, fun h1 h2 y k => SnP.at y k⟩
theorem led_new (w : World) : w.params.followText "set-order" = true ∨ (!w.params.followText "set-order") = true := by
  cases w.params.followText "set-order" with
  | true => exact .inl rfl
  | false => exact .inr rfl
theorem StN.fresh {w : World} {h : Heap} {a : Addr} (e : h.get? a = some (newS w)) : StN w h a [] #[] 0 (.fresh 0 0 (!w.params.followText "set-order")) :=
  ⟨⟨newS w, e, ⟨rfl, rfl, rfl⟩, rfl⟩, rfl, ⟨.nil, rfl, rfl, .inl rfl, fun x m => (by cases m), fun i x j m => (by cases m)⟩, .nil, led_new w, by show 0 * 5 < 7 * 3; decide, by decide⟩
theorem SnP.fresh {w : World} {h : Heap} {a : Addr} (e : h.get? a = some (newS w)) : SnP w a [] h := ⟨[], _, _, _, .nil, .fresh e⟩
theorem SnP.none {w : World} {h : Heap} {a : Addr} (x : SnP w a [] h) : SetR w h a (fun _ => false) 0 := by
  obtain ⟨l', es, ep, t, pm, R⟩ := x
  obtain rfl := List.perm_nil.mp pm
  obtain ⟨o, e, ex, d⟩ := R.ob
  have hes : es.toList = [] := R.rows
  have hsz : es.size = 0 := R.size
  exact ⟨o, es, ep, t, e, ex, d, (by rw [hes]; exact fun e m => nomatch m), (by rw [hes]; exact .nil), (fun k => by rw [hes]; simp), (by rw [hsz]; decide), R.fits, hsz, R.tab.ris, R.led⟩
section
variable {X : Cx} {pins : List (Addr × Obj)} {σ : L2.St} {H : Hp} {s : Shared} {a b : Addr} {l : Mem} {k : NestedKey}
end
end EV
namespace EV
open PySem PySem.Spec PyProof.Rows L2
section
variable {P : Program} {w : World} {A : Around} {s : Shared}
end
section
variable {X : Cx}
end
end EV
namespace EV
open PySem PySem.Spec PyProof.Rows L2 PySem.W PySem.Calls
section
variable {prog : Program} {w : World} {A : Around} {E : Value → Shared → Prop} {s : Shared}
def hdB : PyData → Bool
  | .tuple (_ :: _) => true
  | _ => false
theorem lt_tup {Q : Value → Shared → Prop} {l b : Addr} {xs ys : Array Value} {e r : Nat → Bool} (hl : s.heap.IsTuple l xs) (hb : s.heap.IsTuple b ys) (he : ∀ j (h1 : j < xs.size) (h2 : j < ys.size), SeqAt.EqAt A.in1 s xs[j] ys[j] (e j))
    (hr : ∀ j (h1 : j < xs.size) (h2 : j < ys.size), e j = false → SeqAt.RcLt A.in1 s xs[j] ys[j] (r j)) (h : Q (.bool (SeqAt.firstLt e r (decide (xs.size < ys.size)) (List.range (min xs.size ys.size)))) s) :
    wpAny (model prog w) A (call (.builtin "tuple.__lt__") [.ref l, .ref b]) Q E s := by
  obtain ⟨⟨c1, d1, t1, s1⟩, ho, hc, n, hd⟩ := id hl
  obtain ⟨⟨c2, d2, t2, s2⟩, ho2, hc2, n2, hd2⟩ := id hb
  simp only at hc hd hc2 hd2
  subst hc hd hc2 hd2
  exact call_meets F.slot_tuple_lt ⟨_, ho, rfl⟩ F.entry_tuple_lt (F.args_tuple_lt_2 _ _) (SeqAt.tuple_ltAt l b xs ys n n2 d1 d2 s1 s2 e r) ⟨ho, ho2, he, hr, h⟩
theorem one_tup {xs ys : List PyData} {a b : Value} {as bs : List Addr} {Q : Bool → Shared → Prop} (ra : Reads s.heap a (.tuple xs) as) (rb : Reads s.heap b (.tuple ys) bs) (hal : alikeAll xs ys = true)
    (hu : A.units + min (PyData.depth (.tuple xs)) (PyData.depth (.tuple ys)) < cLine) (hq : Q (dataLt (.tuple xs) (.tuple ys)) s) : wpAny (model prog w) A (oneLt' true a b) Q E s := by
  cases ra with
  | @tuple l o vs n _ as₁ h1 h2 h3 h4 =>
    cases rb with
    | @tuple l' o' vs' n' _ bs₁ k1 k2 k3 k4 =>
      have n1 : vs.size = xs.length := by simpa using SeqAt.ReadsAll.length _ _ _ h4
      have n2 : vs'.size = ys.length := by simpa using SeqAt.ReadsAll.length _ _ _ k4
      rw [dataLt_tuple, ← firstLt_toks xs ys hal, ← n1, ← n2] at hq
      rw [oneLt'_eq]
      simp only [if_true]
      refine wpAny_bind (wpAny_cRoomFor (SeqAt.room_here hu) ?_)
      refine wpAny_bind (wpAny_callSpecialIfBound?_slot (T := "tuple") ⟨_, h1, h2⟩ F.slot_tuple_lt (lt_tup (e := SeqAt.pairEq xs ys) (r := fun j => dataLt (xs.getD j .none) (ys.getD j .none)) ⟨_, h1, h2, _, h3⟩ ⟨_, k1, k2, _, k3⟩ (fun j j1 j2 => ?_) (fun j j1 j2 hj => ?_) ?_))
      · have z := eqAt_alikeAll xs ys A.in1 s vs.toList vs'.toList _ _ h4 k4 hal (SeqAt.room_in hu) j (by simpa using j1) (by simpa using j2)
        simpa using z
      · have z := rcLt_alikeAll xs ys A.in1 s vs.toList vs'.toList _ _ h4 k4 hal (SeqAt.room_in hu) j (by simpa using j1) (by simpa using j2) hj
        simpa using z
      · exact wpAny_truthy_bool hq
theorem firsts_tup {M : Model} : ∀ {vs : List Value} {ds : List PyData} {Q : List (Option Value) → Shared → Prop}, EachIs (fun v d => ∃ as, Reads s.heap v d as) vs ds → (∀ d ∈ ds, ∃ xs, d = .tuple xs) → (∀ os : List (Option Value), os.map Option.isSome = ds.map hdB → Q os s) → wpAny M A (vs.mapM firstOfTuple') Q E s
  | _, _, _, .nil, _, h => by rw [List.mapM_nil]; exact wpAny_pure (h [] rfl)
  | v :: vs, d :: ds, Q, .cons ⟨as, r⟩ t, ht, h => by
    obtain ⟨xs, rfl⟩ := ht d (List.mem_cons_self ..)
    rw [List.mapM_cons]
    refine wpAny_bind ?_
    cases r with
    | @tuple l o items n _ _ h1 h2 h3 h4 =>
      rw [kas_first_eq]
      refine wpAny_bind (Looks.here (show Looks M s.heap (typeOf (.ref l)) o.cls from (Looks.ld h1).andThen .now) ?_)
      rw [h2, if_neg (by decide)]
      refine wpAny_bind (listItems_at h1 h3 (wpAny_pure ?_))
      refine wpAny_bind (firsts_tup t (fun d m => ht d (List.mem_cons_of_mem _ m)) fun os e => wpAny_pure (h _ ?_))
      have z : (items[0]?).isSome = hdB (.tuple xs) := by
        have sz : items.size = xs.length := by simpa using SeqAt.ReadsAll.length _ _ _ h4
        cases xs with
        | nil =>
          have : items[0]? = none := by
            rw [Array.getElem?_eq_none_iff, sz]; exact Nat.le_refl _
          rw [this]; rfl
        | cons x r =>
          have : items[0]? = some (items[0]'(by rw [sz]; exact Nat.succ_pos _)) := Array.getElem?_eq_getElem _
          rw [this]; rfl
      rw [List.map_cons, List.map_cons, z, e]
theorem kind_tup {M : Model} {v : Value} {vs : List Value} {d : PyData} {ds : List PyData} {Q : SortKind → Shared → Prop} (e : EachIs (fun v d => ∃ as, Reads s.heap v d as) (v :: vs) (d :: ds)) (ht : ∀ x ∈ d :: ds, ∃ xs, x = .tuple xs) (hn : (d :: ds).all hdB = false)
    (h : Q (bif hdB d then general' else oneType') s) : wpAny M A (keyKind' (v :: vs).toArray) Q E s := by
  rw [keyKind'_eq, List.mapM_toArray, map_eq_pure_bind]
  refine wpAny_bind (wpAny_bind (firsts_tup e ht fun os eo => wpAny_pure ?_))
  have z : (os.toArray.all fun x => x.isSome) = false := by
    rw [List.all_toArray]
    have q : (os.map Option.isSome).all id = ((d :: ds).map hdB).all id := by rw [eo]
    rw [List.all_map, List.all_map] at q
    exact q.trans hn
  rw [z, if_neg Bool.false_ne_true]
  cases os with
  | nil => cases eo
  | cons o os =>
    rw [List.map_cons, List.map_cons, List.cons.injEq] at eo
    have f : (((o :: os).toArray[0]?).bind id).isSome = hdB d := by
      rw [← eo.1]
      cases o <;> rfl
    rw [f]
    cases c : hdB d with
    | true =>
      rw [c, cond_true] at h
      rw [if_pos rfl]
      exact wpAny_pure h
    | false =>
      rw [c, cond_false] at h
      rw [if_neg Bool.false_ne_true, oneTypeOnly'_eq, List.mapM_toArray, map_eq_pure_bind]
      refine wpAny_bind (wpAny_bind (wpAny_bind (kas_mapM (r := .type "tuple") _ (fun u hu Q' hq => ?_) (wpAny_pure ?_))))
      · obtain ⟨d', hd', as, r⟩ := e.left u hu
        obtain ⟨xs, rfl⟩ := ht d' hd'
        exact (looks_reads r).here hq
      · have a1 : ((List.map (fun _ => Value.type "tuple") (v :: vs)).toArray.all fun x => x == Value.type "tuple") = true := by
          rw [List.all_toArray, List.all_map, List.all_eq_true]
          exact fun _ _ => rfl
        have a0 : (List.map (fun _ => Value.type "tuple") (v :: vs)).toArray[0]? = some (.type "tuple") := rfl
        rw [a0]
        simp only [a1, if_true]
        exact wpAny_pure (wpAny_pure h)
def SortsD (ds : List PyData) : Prop := W.Sortable ds ∨ ∀ d ∈ ds, ∃ xs, d = .tuple xs
theorem SortsD.at {vs : List Value} {ds : List PyData} (e : EachIs (fun v d => ∃ as, Reads s.heap v d as) vs ds) (hal : AllAlike ds) (hk : SortsD ds) (hu : ∀ d, d ∈ ds → A.units + d.depth < cLine) : SortsAt prog w A s (dataKind s.heap ds) vs := by
  rcases hk with hk | ht
  · exact SortsAt.data e hal hk hu
  cases hn : ds.all hdB with
  | true =>
    refine SortsAt.data e hal (.inl fun d hd => ?_) hu
    have z := List.all_eq_true.mp hn d hd
    obtain ⟨xs, rfl⟩ := ht d hd
    cases xs with
    | nil => cases z
    | cons x r => exact ⟨x, r, rfl⟩
  | false =>
    have room : ∀ {d d' : PyData}, d ∈ ds → A.units + min d.depth d'.depth < cLine := fun {d d'} hd => Nat.lt_of_le_of_lt (Nat.add_le_add_left (Nat.min_le_left _ _) _) (hu d hd)
    refine ⟨fun v hv => ?_, ?_⟩
    · obtain ⟨d, hd, as, r⟩ := e.left v hv
      exact ⟨_, dataKind_some hal hd r⟩
    · cases e with
      | nil => cases hn
      | @cons v d vs' ds' r t =>
        refine ⟨bif hdB d then general' else oneType', ?_, fun h2 E Q hq => kind_tup (.cons r t) ht hn hq⟩
        intro E x y a b Q ha hb hq
        obtain ⟨d1, as, hd, ra, rfl⟩ := dataKind_inv ha
        obtain ⟨d2, as', hd', rb, rfl⟩ := dataKind_inv hb
        have hdd := hal d1 hd d2 hd'
        have hroom := room (d' := d2) hd
        obtain ⟨xs, rfl⟩ := ht d1 hd
        obtain ⟨ys, rfl⟩ := ht d2 hd'
        cases hdB d with
        | true => exact oneLt_alike (f := false) (fun z => nomatch z) ra rb hdd (fun z => nomatch z) hroom hq
        | false =>
          rw [cond_false, keyLt'_oneType]
          exact one_tup ra rb (by simpa [alike] using hdd) hroom hq
variable {β : Type} {vs : List Value} {bs : List β} {enc : β → PyData} {R : Value → β → Prop}
end
end EV
namespace EV
open PySem PySem.Spec PyProof.Rows L2
def ins {α : Type} (le : α → α → Bool) (x : α) : List α → List α
  | [] => [x]
  | y :: r => bif le x y then x :: y :: r else y :: ins le x r
section
variable {α : Type} {le : α → α → Bool}
def chainL (lt : α → α → Bool) : List α → Bool
  | [] => true
  | [_] => true
  | x :: y :: r => lt x y && chainL lt (y :: r)
end
def leD {α : Type} (p q : α × PyData) : Bool := !W.dataLt q.2 p.2
def ltD {α : Type} (p q : α × PyData) : Bool := W.dataLt p.2 q.2
section
variable {X : Cx}
end
end EV
set_option maxHeartbeats 2000000
namespace EV
open PySem PySem.Spec PyProof.Rows L2
inductive W where
  | non | bl (b : Bool) | int (i : Int) | str (x : Str) | tup (ws : List W) | ref (n : Nat) | df (i : Nat) | clo (k : Nat) (ws : List W)
inductive Ob where
  | lst (ws : List W)
  | fz (ws : List W)
  | dk (kvs : List (Key × W))
  | dn (kvs : List (W × W))
  | st (ws : List W)
  | si (is : List Int)
  | ob (c : Nat) (fs : List (Str × W))
  | fd (kvs : List (Key × W))
  | fn (kvs : List (W × W))
  | pt (ws : List W)
  | er (c : Nat) (d : Option Nat)
  | xo
def Ob.plain : Ob → Bool
  | .lst _ => true
  | .fz _ => true
  | .dk _ => true
  | .ob _ _ => true
  | _ => false
inductive Tr where
  | lf | nd (o : Option Ob) (l r : Tr)
noncomputable def Tr.get (t : Tr) : Nat → Option Ob :=
  Tr.rec (motive := fun _ => Nat → Option Ob) (fun _ => none) (fun o _ _ gl gr n => bif Nat.beq n 0 then o else bif Nat.beq (n % 2) 1 then gl (n / 2) else gr (n / 2 - 1)) t
noncomputable def Tr.put (k : Nat) : Tr → Nat → Ob → Tr :=
  Nat.rec (motive := fun _ => Tr → Nat → Ob → Tr) (fun t _ _ => t) (fun _ put t n b => Tr.rec (motive := fun _ => Tr)
    (bif Nat.beq n 0 then .nd (some b) .lf .lf else bif Nat.beq (n % 2) 1 then .nd none (put .lf (n / 2) b) .lf else .nd none .lf (put .lf (n / 2 - 1) b))
    (fun o l r _ _ => bif Nat.beq n 0 then .nd (some b) l r else bif Nat.beq (n % 2) 1 then .nd o (put l (n / 2) b) r else .nd o l (put r (n / 2 - 1) b)) t) k
theorem Tr.get_l {n : Nat} : Tr.lf.get n = none := rfl
theorem Tr.get_n {o : Option Ob} {l r : Tr} {n : Nat} : (Tr.nd o l r).get n = bif Nat.beq n 0 then o else bif Nat.beq (n % 2) 1 then l.get (n / 2) else r.get (n / 2 - 1) := rfl
theorem Tr.put_l {k n : Nat} {b : Ob} : Tr.put (k + 1) .lf n b = bif Nat.beq n 0 then .nd (some b) .lf .lf else bif Nat.beq (n % 2) 1 then .nd none (Tr.put k .lf (n / 2) b) .lf else .nd none .lf (Tr.put k .lf (n / 2 - 1) b) := rfl
theorem Tr.put_n {k n : Nat} {b : Ob} {o : Option Ob} {l r : Tr} : Tr.put (k + 1) (.nd o l r) n b = bif Nat.beq n 0 then .nd (some b) l r else bif Nat.beq (n % 2) 1 then .nd o (Tr.put k l (n / 2) b) r else .nd o l (Tr.put k r (n / 2 - 1) b) := rfl
noncomputable def nthR {α : Type} (xs : List α) : Nat → Option α := List.rec (motive := fun _ => Nat → Option α) (fun _ => none) (fun x _ ih i => Nat.rec (motive := fun _ => Option α) (some x) (fun m _ => ih m) i) xs
theorem nthR_eq {α : Type} : ∀ (xs : List α) (i : Nat), nthR xs i = xs[i]?
  | [], _ => rfl
  | _ :: _, 0 => rfl
  | _ :: xs, i + 1 => (nthR_eq xs i).trans (by simp)
noncomputable def setR {α : Type} (xs : List α) (i : Nat) (w : α) : List α := List.rec (motive := fun _ => Nat → List α) (fun _ => []) (fun x xs ih i => Nat.rec (motive := fun _ => List α) (w :: xs) (fun m _ => x :: ih m) i) xs i
theorem setR_eq {α : Type} : ∀ (xs : List α) (i : Nat) (w : α), setR xs i w = xs.set i w
  | [], _, _ => rfl
  | _ :: _, 0, _ => rfl
  | x :: xs, i + 1, w => congrArg (x :: ·) (setR_eq xs i w)
theorem beq_t {a b : Nat} (h : a = b) : Nat.beq a b = true := by subst h; exact Nat.beq_refl a
theorem beq_f {a b : Nat} (h : a ≠ b) : Nat.beq a b = false := by
  cases e : Nat.beq a b with
  | false => rfl
  | true => exact absurd (Nat.eq_of_beq_eq_true e) h
theorem put_same : ∀ (k : Nat) (t : Tr) (n : Nat) (b : Ob), n + 1 < 2 ^ k → (Tr.put k t n b).get n = some b
  | 0, _, n, _, h => by simp at h
  | k + 1, t, n, b, h => by
    have h2 : 2 ^ (k + 1) = 2 ^ k * 2 := Nat.pow_succ ..
    by_cases c0 : n = 0
    · subst c0
      cases t <;> rfl
    · by_cases c1 : n % 2 = 1
      · have i := fun t => put_same k t (n / 2) b (by omega)
        cases t <;> simp only [Tr.put_l, Tr.put_n, beq_f c0, beq_t c1, cond_true, cond_false, Tr.get_l, Tr.get_n, i]
      · have i := fun t => put_same k t (n / 2 - 1) b (by omega)
        cases t <;> simp only [Tr.put_l, Tr.put_n, beq_f c0, beq_f c1, cond_true, cond_false, Tr.get_l, Tr.get_n, i]
theorem get_nd {o : Option Ob} {l r : Tr} {i : Nat} : (Tr.nd o l r).get i = if i = 0 then o else if i % 2 = 1 then l.get (i / 2) else r.get (i / 2 - 1) := by
  by_cases d0 : i = 0
  · subst d0; rfl
  · rw [if_neg d0]
    by_cases d1 : i % 2 = 1
    · rw [if_pos d1]; simp only [Tr.get_n, beq_f d0, beq_t d1, cond_true, cond_false]
    · rw [if_neg d1]; simp only [Tr.get_n, beq_f d0, beq_f d1, cond_true, cond_false]
theorem get_lf {i : Nat} : Tr.lf.get i = none := rfl
theorem put_ne : ∀ (k : Nat) (t : Tr) (n i : Nat) (b : Ob), i ≠ n → (Tr.put k t n b).get i = t.get i
  | 0, _, _, _, _, _ => rfl
  | k + 1, t, n, i, b, h => by
    by_cases c0 : n = 0
    · subst c0
      cases t <;> simp [Tr.put_l, Tr.put_n, get_nd, get_lf, h]
    · by_cases c1 : n % 2 = 1
      · have q : ∀ t, i % 2 = 1 → (Tr.put k t (n / 2) b).get (i / 2) = t.get (i / 2) := fun t z => put_ne k t _ _ b (by omega)
        cases t <;> simp only [Tr.put_l, Tr.put_n, beq_f c0, beq_t c1, cond_true, cond_false, get_nd, get_lf]
        · split
          · rfl
          · split
            · rename_i z; rw [q _ z]; rfl
            · rfl
        · split
          · rfl
          · split
            · rename_i z; rw [q _ z]
            · rfl
      · have q : ∀ t, i ≠ 0 → i % 2 ≠ 1 → (Tr.put k t (n / 2 - 1) b).get (i / 2 - 1) = t.get (i / 2 - 1) := fun t z1 z => put_ne k t _ _ b (by omega)
        cases t <;> simp only [Tr.put_l, Tr.put_n, beq_f c0, beq_f c1, cond_true, cond_false, get_nd, get_lf]
        · split
          · rfl
          · split
            · rfl
            · rename_i z1 z; rw [q _ z1 z]; rfl
        · split
          · rfl
          · split
            · rfl
            · rename_i z1 z; rw [q _ z1 z]
structure Hpe where
  nx : Nat
  t : Tr
  lk : List Nat
def Hpe.get (h : Hpe) (n : Nat) : Option Ob := h.t.get n
def Hpe.set (h : Hpe) (n : Nat) (o : Ob) : Hpe := ⟨h.nx, Tr.put 41 h.t n o, h.lk⟩
def Hpe.new (h : Hpe) (o : Ob) : Hpe := ⟨h.nx + 1, Tr.put 41 h.t h.nx o, h.lk⟩
def Hpe.ok (h : Hpe) : Bool := Nat.ble h.nx 1099511627776
def Hpe.nil : Hpe := ⟨0, .lf, []⟩
structure CTx where
  qual : Str
  scope : Scope
  body : FuncBody
  ps : List Str
  fr : List Str
structure GC where
  K : PySem.W.Frag
  dfs : Nat → Option Addr
  tabs : List Addr
  prog : Program
  wo : World
  ltabs : List Addr
  nm : Nat → Nat → Str
  tx : Nat → Option CTx
  cc : Nat → Option Addr
def mapO {α β : Type} (f : α → Option β) : List α → Option (List β)
  | [] => some []
  | x :: r => match f x with
    | none => none
    | some y => match mapO f r with
      | none => none
      | some ys => some (y :: ys)
def nkW : Nat → W → Option NestedKey
  | 0, _ => none
  | k + 1, w => match w with
    | .non => some .none
    | .bl b => some (.num (if b = true then 1 else 0))
    | .int i => some (.num i)
    | .str x => some (.text x)
    | .tup ws => match mapO (nkW k) ws with
      | none => none
      | some ks => some (.tup ks)
    | _ => none
mutual
inductive RW (G : GC) (m : Nat → Addr) (n : Nat) (H : Hp) : W → V → Prop
  | non : RW G m n H .non .non
  | bl (b : Bool) : RW G m n H (.bl b) (.bl b)
  | int (i : Int) : RW G m n H (.int i) (.int i)
  | str (x : Str) : RW G m n H (.str x) (.str x)
  | tup {a : Addr} {xs : List V} {ws : List W} : SqT G.K H a xs → RWs G m n H ws xs → RW G m n H (.tup ws) (.ref a)
  | ref (i : Nat) : i < n → RW G m n H (.ref i) (.ref (m i))
  | df {i : Nat} {f : Addr} : G.dfs i = some f → RW G m n H (.df i) (.ref f)
inductive RWs (G : GC) (m : Nat → Addr) (n : Nat) (H : Hp) : List W → List V → Prop
  | nil : RWs G m n H [] []
  | cons {w : W} {ws : List W} {v : V} {vs : List V} : RW G m n H w v → RWs G m n H ws vs → RWs G m n H (w :: ws) (v :: vs)
end
def erO (a C : Addr) (d : Option Addr) : HO := .ext fun h => ∃ oe : Obj, h.get? a = some oe ∧ oe.cls = .ref C ∧ oe.dict = d ∧ ∃ vs, oe.data = .fields vs
def dO (a : Addr) : HO := .ext fun h => ∃ o : Obj, h.get? a = some o
inductive RO (G : GC) (m : Nat → Addr) (n : Nat) (H : Hp) : Addr → Ob → HO → Prop
  | lst {a : Addr} {ws : List W} {xs : List V} : RWs G m n H ws xs → RO G m n H a (.lst ws) (.lst xs)
  | fz {a : Addr} {o : Obj} {ws : List W} {xs : List V} : RWs G m n H ws xs → RO G m n H a (.fz ws) (.frz o (.lst xs))
  | dk {a : Addr} {kvs : List (Key × W)} {kus : List (Key × V)} : kvs.map (·.1) = kus.map (·.1) → RWs G m n H (kvs.map (·.2)) (kus.map (·.2)) → RO G m n H a (.dk kvs) (.dK kus)
  | dn {a : Addr} {kvs : List (W × W)} {xs : Dn} : kvs.map (fun p => nkW 9 p.1) = xs.map (fun x => some x.1) → (∀ x ∈ xs, x.1.depth ≤ 8) → RWs G m n H (kvs.map (·.1)) (xs.map fun x => V.ref x.2.1) → RWs G m n H (kvs.map (·.2)) (xs.map (·.2.2)) → RO G m n H a (.dn kvs) (dnO G.prog G.wo a xs)
  | st {a : Addr} {ws : List W} {l : Mem} : ws.map (nkW 9) = l.map (fun x => some x.1) → (∀ x ∈ l, x.1.depth ≤ 8) → RWs G m n H ws (l.map fun x => V.ref x.2) → RO G m n H a (.st ws) (snO G.wo a l)
  | si {a : Addr} {is : List Int} : is.Nodup → RO G m n H a (.si is) (SetO G.wo a (fun k => is.contains k) is.length)
  | ob {a C dx : Addr} {c : Nat} {fs : List (Str × W)} {gs : List (Str × V)} : G.cc c = some C → fs.map (·.1) = gs.map (·.1) → RWs G m n H (fs.map (·.2)) (gs.map (·.2)) → RO G m n H a (.ob c fs) (.ins C dx gs)
  | fd {a : Addr} {o : Obj} {kvs : List (Key × W)} {kus : List (Key × V)} : kvs.map (·.1) = kus.map (·.1) → RWs G m n H (kvs.map (·.2)) (kus.map (·.2)) → RO G m n H a (.fd kvs) (.frz o (.dK kus))
  | fn {a : Addr} {o : Obj} {kvs : List (W × W)} {xs : Dn} : kvs.map (fun p => nkW 9 p.1) = xs.map (fun x => some x.1) → (∀ x ∈ xs, x.1.depth ≤ 8) → RWs G m n H (kvs.map (·.1)) (xs.map fun x => V.ref x.2.1) → RWs G m n H (kvs.map (·.2)) (xs.map (·.2.2)) → RO G m n H a (.fn kvs) (.frz o (dnO G.prog G.wo a xs))
  | pt {a : Addr} {o : Obj} {ws : List W} {xs : List V} : RWs G m n H ws xs → o.dict = none → RO G m n H a (.pt ws) (.frz o (.tup xs))
  | er0 {a C : Addr} {c : Nat} : G.cc c = some C → RO G m n H a (.er c none) (erO a C none)
  | er1 {a C : Addr} {c j : Nat} : G.cc c = some C → j < n → RO G m n H a (.er c (some j)) (erO a C (some (m j)))
  | xo {a : Addr} : RO G m n H a .xo (dO a)
def TabOk (H : Hp) (P : Addr) : Prop := ∃ ps : Array Value, H P = some (.tbl ps) ∧ TriplesOk ps.toList
def TabL (G : GC) (m : Nat → Addr) (n : Nat) (H : Hp) (P : Addr) : Prop := ∃ ps : Array Value, H P = some (.tbl ps) ∧ TriplesOk ps.toList ∧ ∀ (pos : Pos) (cv : Value), codeAmong pos ps.toList = some cv → ∃ c, cv = .ref c ∧ H c = some (LamX.CodeO c (G.nm pos.line pos.col)) ∧ ∀ i, i < n → m i ≠ c
theorem TabL.keep {G : GC} {m m' : Nat → Addr} {n n' : Nat} {H H' : Hp} {P : Addr} (t : TabL G m n H P) (kt : ∀ ps, H P = some (.tbl ps) → H' P = some (.tbl ps)) (kc : ∀ b q, H b = some (LamX.CodeO b q) → (∀ i, i < n → m i ≠ b) → H' b = some (LamX.CodeO b q) ∧ ∀ i, i < n' → m' i ≠ b) : TabL G m' n' H' P := by
  obtain ⟨ps, e, tr, h⟩ := t
  refine ⟨ps, kt _ e, tr, fun pos cv hc => ?_⟩
  obtain ⟨c, e1, e2, e3⟩ := h pos cv hc
  obtain ⟨a, b⟩ := kc c _ e2 e3
  exact ⟨c, e1, a, b⟩
structure RH (G : GC) (m : Nat → Addr) (h : Hpe) (H : Hp) : Prop where
  sz : h.nx ≤ 1099511627776
  inj : ∀ i j, i < h.nx → j < h.nx → m i = m j → i = j
  obj : ∀ i, i < h.nx → ∃ o ho, h.get i = some o ∧ H (m i) = some ho ∧ RO G m h.nx H (m i) o ho
  tab : ∀ P ∈ G.tabs, TabOk H P
  ltab : ∀ P ∈ G.ltabs, TabL G m h.nx H P
structure Mv (m : Nat → Addr) (n : Nat) (H : Hp) (m' : Nat → Addr) (n' : Nat) (H' : Hp) : Prop where
  le : n ≤ n'
  old : ∀ i, i < n → m' i = m i
  new : ∀ i, n ≤ i → i < n' → H (m' i) = none
  kp : ∀ b o, H b = some o → (∀ i, i < n → m i ≠ b) → H' b = some o ∨ ∃ ps qs, o = .tbl ps ∧ H' b = some (.tbl qs)
  kf : ∀ i, i < n → ∀ ob u, H (m i) = some (.frz ob u) → H' (m i) = some (.frz ob u)
section
variable {G : GC} {m m' m1 m2 : Nat → Addr} {n n' n1 n2 : Nat} {H H' H1 H2 : Hp} {h h' h1 h2 : Hpe}
theorem Mv.refl : Mv m n H m n H := ⟨Nat.le_refl _, fun _ _ => rfl, fun i a b => absurd a (by omega), fun b o e _ => .inl e, fun _ _ _ _ e => e⟩
theorem RO.notup {a : Addr} {o : Ob} {ho : HO} (r : RO G m n H a o ho) : (∀ xs, ho ≠ .tup xs) ∧ (∀ ob xs, ho = .frz ob (.tup xs) → True) ∧ ∀ ps, ho ≠ .tbl ps := by
  cases r with
  | dn _ _ _ _ => exact ⟨fun _ z => (by cases (show HO.ext _ = HO.tup _ from z)), fun _ _ _ => trivial, fun _ z => (by cases (show HO.ext _ = HO.tbl _ from z))⟩
  | st _ _ _ => exact ⟨fun _ z => (by cases (show HO.ext _ = HO.tup _ from z)), fun _ _ _ => trivial, fun _ z => (by cases (show HO.ext _ = HO.tbl _ from z))⟩
  | si _ => exact ⟨fun _ z => (by cases (show HO.ext _ = HO.tup _ from z)), fun _ _ _ => trivial, fun _ z => (by cases (show HO.ext _ = HO.tbl _ from z))⟩
  | fn _ _ _ _ => exact ⟨fun _ z => (nomatch z), fun _ _ _ => trivial, fun _ z => (nomatch z)⟩
  | er0 _ => exact ⟨fun _ z => (by cases (show HO.ext _ = HO.tup _ from z)), fun _ _ _ => trivial, fun _ z => (by cases (show HO.ext _ = HO.tbl _ from z))⟩
  | er1 _ _ => exact ⟨fun _ z => (by cases (show HO.ext _ = HO.tup _ from z)), fun _ _ _ => trivial, fun _ z => (by cases (show HO.ext _ = HO.tbl _ from z))⟩
  | xo => exact ⟨fun _ z => (by cases (show HO.ext _ = HO.tup _ from z)), fun _ _ _ => trivial, fun _ z => (by cases (show HO.ext _ = HO.tbl _ from z))⟩
  | _ => exact ⟨fun _ z => (nomatch z), fun _ _ _ => trivial, fun _ z => (nomatch z)⟩
theorem RH.ne_none (r : RH G m h H) {i : Nat} (hi : i < h.nx) : H (m i) ≠ none := by
  obtain ⟨o, ho, _, e, _⟩ := r.obj i hi
  rw [e]; exact fun z => by cases z
theorem Mv.stay (mv : Mv m n H m' n' H') {b : Addr} {o : HO} (e : H b = some o) (hb : ∀ i, i < n → m i ≠ b) (ht : ∀ ps, o ≠ .tbl ps) : H' b = some o := by
  rcases mv.kp b o e hb with q | ⟨ps, qs, q, _⟩
  · exact q
  · exact absurd q (ht ps)
theorem Mv.trans (a : Mv m n H m1 n1 H1) (r : ∀ i, i < n → H1 (m i) ≠ none) (b : Mv m1 n1 H1 m2 n2 H2) : Mv m n H m2 n2 H2 where
  le := Nat.le_trans a.le b.le
  old := fun i hi => (b.old i (Nat.lt_of_lt_of_le hi a.le)).trans (a.old i hi)
  new := fun i h1 h2 => by
    by_cases c : i < n1
    · rw [b.old i c]; exact a.new i h1 c
    · have q := b.new i (by omega) h2
      cases e : H (m2 i) with
      | none => rfl
      | some o =>
        by_cases own : ∃ j, j < n ∧ m j = m2 i
        · obtain ⟨j, hj, ej⟩ := own
          exact absurd (by rw [ej]; exact q) (r j hj)
        · rcases a.kp _ o e (fun j hj z => own ⟨j, hj, z⟩) with z | ⟨_, _, _, z⟩
          · rw [q] at z; cases z
          · rw [q] at z; cases z
  kp := fun x o e hx => by
    have nx1 : ∀ i, i < n1 → m1 i ≠ x := fun i hi z => by
      by_cases c : i < n
      · exact hx i c (by rw [← a.old i c]; exact z)
      · have q := a.new i (by omega) hi
        rw [z, e] at q; cases q
    rcases a.kp x o e hx with z | ⟨ps, qs, z1, z2⟩
    · exact b.kp x o z nx1
    · rcases b.kp x _ z2 nx1 with z | ⟨_, qs2, _, z⟩
      · exact .inr ⟨ps, qs, z1, z⟩
      · exact .inr ⟨ps, qs2, z1, z⟩
  kf := fun i hi ob u e => by
    have e1 := a.kf i hi ob u e
    rw [← a.old i hi] at e1
    have e2 := b.kf i (Nat.lt_of_lt_of_le hi a.le) ob u e1
    rwa [a.old i hi] at e2
theorem RH.mv_ne (r : RH G m1 h1 H1) (a : Mv m n H m1 h1.nx H1) : ∀ i, i < n → H1 (m i) ≠ none := fun i hi => by
  rw [← a.old i hi]; exact r.ne_none (Nat.lt_of_lt_of_le hi a.le)
def TupK (H H' : Hp) : Prop := ∀ a xs, Rd H a (.tup xs) → Rd H' a (.tup xs)
theorem Mv.tupk (r : RH G m h H) (mv : Mv m h.nx H m' n' H') : TupK H H' := fun a xs q => by
  rcases q with q | ⟨o, q⟩
  · refine .inl (mv.stay q (fun i hi z => ?_) (fun _ z => by cases z))
    obtain ⟨o, ho, _, e, ro⟩ := r.obj i hi
    rw [z, q] at e; cases e
    exact ro.notup.1 _ rfl
  · refine .inr ⟨o, ?_⟩
    by_cases own : ∃ i, i < h.nx ∧ m i = a
    · obtain ⟨i, hi, rfl⟩ := own
      exact mv.kf i hi _ _ q
    · exact mv.stay q (fun i hi z => own ⟨i, hi, z⟩) (fun _ z => by cases z)
theorem TupK.seq {K : PySem.W.Frag} (t : TupK H H') {a : Addr} {xs : List V} (q : SqT K H a xs) : SqT K H' a xs := q.imp (t a xs) id
theorem TupK.refl : TupK H H := fun _ _ q => q
theorem RW.mono {w : W} {v : V} (r : RW G m n H w v) (o : ∀ i, i < n → m' i = m i) (l : n ≤ n') (t : TupK H H') : RW G m' n' H' w v :=
  RW.rec (motive_1 := fun w v _ => RW G m' n' H' w v) (motive_2 := fun ws vs _ => RWs G m' n' H' ws vs) .non (fun b => .bl b) (fun i => .int i) (fun x => .str x) (fun a _ ih => .tup (t.seq a) ih)
    (fun i hi => by rw [← o i hi]; exact .ref i (Nat.lt_of_lt_of_le hi l)) (fun e => .df e) .nil (fun _ _ a b => .cons a b) r
theorem RWs.mono : ∀ {ws : List W} {vs : List V}, RWs G m n H ws vs → (∀ i, i < n → m' i = m i) → n ≤ n' → TupK H H' → RWs G m' n' H' ws vs
  | _, _, .nil, _, _, _ => .nil
  | _, _, .cons a b, o, l, t => .cons (a.mono o l t) (b.mono o l t)
theorem RO.mono {a : Addr} {o : Ob} {ho : HO} (r : RO G m n H a o ho) (q : ∀ i, i < n → m' i = m i) (l : n ≤ n') (t : TupK H H') : RO G m' n' H' a o ho := by
  cases r with
  | lst a => exact .lst (a.mono q l t)
  | fz a => exact .fz (a.mono q l t)
  | dk a b => exact .dk a (b.mono q l t)
  | dn a b c d => exact .dn a b (c.mono q l t) (d.mono q l t)
  | st a b c => exact .st a b (c.mono q l t)
  | si a => exact .si a
  | ob a b c => exact .ob a b (c.mono q l t)
  | fd a b => exact .fd a (b.mono q l t)
  | fn a b c d => exact .fn a b (c.mono q l t) (d.mono q l t)
  | pt a b => exact .pt (a.mono q l t) b
  | er0 a => exact .er0 a
  | er1 a b => rw [← q _ b]; exact .er1 a (Nat.lt_of_lt_of_le b l)
  | xo => exact .xo
theorem RO.any {a b : Addr} {o : Ob} {ho : HO} (r : RO G m n H a o ho) (hd : o.plain = true) : RO G m n H b o ho := by
  cases r with
  | lst a => exact .lst a
  | fz a => exact .fz a
  | dk a b => exact .dk a b
  | dn _ _ _ _ => cases hd
  | st _ _ _ => cases hd
  | si _ => cases hd
  | ob a b c => exact .ob a b c
  | fd _ _ => cases hd
  | fn _ _ _ _ => cases hd
  | pt _ _ => cases hd
  | er0 _ => cases hd
  | er1 _ _ => cases hd
  | xo => cases hd
theorem RWs.len : ∀ {ws : List W} {vs : List V}, RWs G m n H ws vs → ws.length = vs.length
  | _, _, .nil => rfl
  | _, _, .cons _ b => congrArg (· + 1) b.len
theorem RWs.app : ∀ {ws : List W} {vs : List V} {ws' : List W} {vs' : List V}, RWs G m n H ws vs → RWs G m n H ws' vs' → RWs G m n H (ws ++ ws') (vs ++ vs')
  | _, _, _, _, .nil, h => h
  | _, _, _, _, .cons a b, h => .cons a (b.app h)
theorem RWs.take : ∀ {ws : List W} {vs : List V} (k : Nat), RWs G m n H ws vs → RWs G m n H (ws.take k) (vs.take k)
  | _, _, 0, _ => by simpa using .nil
  | _, _, _ + 1, .nil => by simpa using .nil
  | _, _, k + 1, .cons a b => .cons a (b.take k)
theorem RWs.drop : ∀ {ws : List W} {vs : List V} (k : Nat), RWs G m n H ws vs → RWs G m n H (ws.drop k) (vs.drop k)
  | _, _, 0, r => r
  | _, _, _ + 1, .nil => by simpa using .nil
  | _, _, k + 1, .cons a b => b.drop k
theorem RWs.get : ∀ {ws : List W} {vs : List V} {i : Nat} {w : W}, RWs G m n H ws vs → ws[i]? = some w → ∃ v, vs[i]? = some v ∧ RW G m n H w v
  | _, _, _, _, .nil, e => by simp at e
  | _, _, 0, _, .cons a b, e => by simp at e; subst e; exact ⟨_, rfl, a⟩
  | _, _, i + 1, _, .cons a b, e => by
    obtain ⟨v, h1, h2⟩ := b.get (i := i) (by simpa using e)
    exact ⟨v, by simpa using h1, h2⟩
theorem RWs.set {w : W} {v : V} (q : RW G m n H w v) : ∀ {ws : List W} {vs : List V} (i : Nat), RWs G m n H ws vs → RWs G m n H (ws.set i w) (vs.set i v)
  | _, _, _, .nil => .nil
  | _, _, 0, .cons a b => .cons q b
  | _, _, i + 1, .cons a b => .cons a (b.set q i)
theorem RWs.rep {ws : List W} {vs : List V} (r : RWs G m n H ws vs) : ∀ k : Nat, RWs G m n H (List.replicate k ws).flatten (List.replicate k vs).flatten
  | 0 => .nil
  | k + 1 => by
    rw [List.replicate_succ, List.replicate_succ, List.flatten_cons, List.flatten_cons]
    exact r.app (r.rep k)
theorem RH.alloc (r : RH G m h H) (hk : h.ok = true) (hk' : h.nx < 1099511627776) {o : Ob} {ho : HO} {p : Addr} (ro : RO G m h.nx H p o ho) (hp : H p = none) :
    ∃ m', RH G m' (h.new o) (upd H p ho) ∧ Mv m h.nx H m' (h.new o).nx (upd H p ho) ∧ m' h.nx = p := by
  refine ⟨fun i => if i = h.nx then p else m i, ?_, ?_, if_pos rfl⟩
  · have old : ∀ i, i < h.nx → (fun i => if i = h.nx then p else m i) i = m i := fun i hi => if_neg (Nat.ne_of_lt hi)
    have tk : TupK H (upd H p ho) := fun a xs q => by
      rcases q with q | ⟨ob, q⟩
      · exact .inl (by rw [upd_ne (fun z : a = p => by rw [z, hp] at q; cases q)]; exact q)
      · exact .inr ⟨ob, by rw [upd_ne (fun z : a = p => by rw [z, hp] at q; cases q)]; exact q⟩
    refine ⟨hk', fun i j hi hj e => ?_, fun i hi => ?_, fun P hP => ?_, fun P hP => ?_⟩
    · have hi' : i < h.nx + 1 := hi
      have hj' : j < h.nx + 1 := hj
      by_cases c : i = h.nx
      · by_cases d : j = h.nx
        · omega
        · have e' : p = m j := by simpa [c, d] using e
          exact absurd hp (by rw [e']; exact r.ne_none (by omega))
      · by_cases d : j = h.nx
        · have e' : m i = p := by simpa [c, d] using e
          exact absurd hp (by rw [← e']; exact r.ne_none (by omega))
        · exact r.inj i j (by omega) (by omega) (by simpa [c, d] using e)
    · have hi' : i < h.nx + 1 := hi
      by_cases c : i = h.nx
      · subst c
        refine ⟨o, ho, put_same 41 h.t h.nx o (by omega), ?_, ?_⟩
        · simp only [if_true]
          exact upd_same
        · show RO G _ _ _ (if h.nx = h.nx then p else m h.nx) o ho
          rw [if_pos rfl]
          exact ro.mono old (Nat.le_succ _) tk
      · obtain ⟨o', ho', q1, q2, q3⟩ := r.obj i (by omega)
        refine ⟨o', ho', (put_ne 41 h.t h.nx i o c).trans q1, ?_, ?_⟩
        · simp only [if_neg c]
          rw [upd_ne (fun z : m i = p => by rw [z, hp] at q2; cases q2)]
          exact q2
        · show RO G _ _ _ (if i = h.nx then p else m i) o' ho'
          rw [if_neg c]
          exact q3.mono old (Nat.le_succ _) tk
    · obtain ⟨ps, e, t⟩ := r.tab P hP
      exact ⟨ps, by rw [upd_ne (fun z : P = p => by rw [z, hp] at e; cases e)]; exact e, t⟩
    · refine (r.ltab P hP).keep (fun ps e => by rw [upd_ne (fun z : P = p => by rw [z, hp] at e; cases e)]; exact e) fun b q e nb => ?_
      have ne : b ≠ p := fun z : b = p => by rw [z, hp] at e; cases e
      refine ⟨by rw [upd_ne ne]; exact e, fun i hi => ?_⟩
      have hi' : i < h.nx + 1 := hi
      by_cases c : i = h.nx
      · simp only [c, if_true]; exact ne.symm
      · simp only [if_neg c]; exact nb i (by omega)
  · refine ⟨Nat.le_succ _, fun i hi => if_neg (Nat.ne_of_lt hi), fun i h1 h2 => ?_, fun b ob e _ => .inl ?_, fun i hi ob u e => by rw [upd_ne (fun z : m i = p => by rw [z, hp] at e; cases e)]; exact e⟩
    · have : i = h.nx := by have h2' : i < h.nx + 1 := h2; omega
      rw [if_pos this]; exact hp
    · rw [upd_ne (fun z : b = p => by rw [z, hp] at e; cases e)]; exact e
theorem RH.store (r : RH G m h H) {i : Nat} (hi : i < h.nx) {o : Ob} {ho : HO} (ro : RO G m h.nx H (m i) o ho) (nf : ∀ ob u, H (m i) ≠ some (.frz ob u) := by intro _ _ z; simp_all) : RH G m (h.set i o) (upd H (m i) ho) ∧ Mv m h.nx H m (h.set i o).nx (upd H (m i) ho) := by
  have tk : TupK H (upd H (m i) ho) := fun a xs q => by
    obtain ⟨o0, ho0, _, e0, r0⟩ := r.obj i hi
    rcases q with q | ⟨ob, q⟩
    · exact .inl (by rw [upd_ne (fun z : a = m i => by rw [z, e0] at q; cases q; exact r0.notup.1 _ rfl)]; exact q)
    · exact .inr ⟨ob, by rw [upd_ne (fun z : a = m i => nf _ _ (by rw [← z]; exact q))]; exact q⟩
  refine ⟨⟨r.sz, r.inj, fun j hj => ?_, fun P hP => ?_, fun P hP => ?_⟩, Nat.le_refl _, fun _ _ => rfl, fun j a b => absurd a (Nat.not_le_of_lt b), fun b ob e hb => .inl ?_, fun j hj ob u e => by rw [upd_ne (fun z : m j = m i => nf ob u (by rw [← z]; exact e))]; exact e⟩
  · by_cases c : j = i
    · subst c
      have hsz := r.sz
      exact ⟨o, ho, put_same 41 h.t j o (by omega), upd_same, ro.mono (fun _ _ => rfl) (Nat.le_refl _) tk⟩
    · obtain ⟨o', ho', q1, q2, q3⟩ := r.obj j hj
      refine ⟨o', ho', (put_ne 41 h.t i j o c).trans q1, ?_, q3.mono (fun _ _ => rfl) (Nat.le_refl _) tk⟩
      rw [upd_ne (fun z : m j = m i => c (r.inj j i hj hi z))]; exact q2
  · obtain ⟨ps, e, t⟩ := r.tab P hP
    refine ⟨ps, ?_, t⟩
    rw [upd_ne]; · exact e
    intro z
    obtain ⟨o0, ho0, _, e0, r0⟩ := r.obj i hi
    rw [← z, e] at e0; cases e0
    exact r0.notup.2.2 _ rfl
  · obtain ⟨o0, ho0, _, e0, r0⟩ := r.obj i hi
    refine (r.ltab P hP).keep (fun ps e => ?_) fun b q e nb => ⟨by rw [upd_ne (fun z : b = m i => nb i hi z.symm)]; exact e, nb⟩
    rw [upd_ne]; · exact e
    intro z
    rw [← z, e] at e0; cases e0
    exact r0.notup.2.2 _ rfl
  · rw [upd_ne (fun z : b = m i => hb i hi z.symm)]; exact e
theorem RH.tupNew (r : RH G m h H) {p : Addr} {ho : HO} (hp : H p = none) : RH G m h (upd H p ho) ∧ Mv m h.nx H m h.nx (upd H p ho) := by
  have tk : TupK H (upd H p ho) := fun a xs q => by
    rcases q with q | ⟨ob, q⟩
    · exact .inl (by rw [upd_ne (fun z : a = p => by rw [z, hp] at q; cases q)]; exact q)
    · exact .inr ⟨ob, by rw [upd_ne (fun z : a = p => by rw [z, hp] at q; cases q)]; exact q⟩
  refine ⟨⟨r.sz, r.inj, fun j hj => ?_, fun P hP => ?_, fun P hP => ?_⟩, Nat.le_refl _, fun _ _ => rfl, fun j a b => absurd a (Nat.not_le_of_lt b), fun b ob e _ => .inl ?_, fun j hj ob u e => by rw [upd_ne (fun z : m j = p => by rw [z, hp] at e; cases e)]; exact e⟩
  · obtain ⟨o', ho', q1, q2, q3⟩ := r.obj j hj
    refine ⟨o', ho', q1, ?_, q3.mono (fun _ _ => rfl) (Nat.le_refl _) tk⟩
    rw [upd_ne (fun z : m j = p => by rw [z, hp] at q2; cases q2)]; exact q2
  · obtain ⟨ps, e, t⟩ := r.tab P hP
    exact ⟨ps, by rw [upd_ne (fun z : P = p => by rw [z, hp] at e; cases e)]; exact e, t⟩
  · exact (r.ltab P hP).keep (fun ps e => by rw [upd_ne (fun z : P = p => by rw [z, hp] at e; cases e)]; exact e) fun b q e nb => ⟨by rw [upd_ne (fun z : b = p => by rw [z, hp] at e; cases e)]; exact e, nb⟩
  · rw [upd_ne (fun z : b = p => by rw [z, hp] at e; cases e)]; exact e
end
end EV
namespace EV
open PySem PySem.Spec PyProof.Rows L2
structure Exc where
  cls : Nat
  fs : List (Str × W)
inductive Res (α : Type) where
  | ok (a : α) (h : Hpe)
  | ex (x : Exc) (h : Hpe)
  | no
def Res.bind {α β : Type} : Res α → (α → Hpe → Res β) → Res β
  | .ok a h, k => k a h
  | .ex x h, _ => .ex x h
  | .no, _ => .no
abbrev Rho := List (Option W)
abbrev FE := Rho → Hpe → Res W
abbrev FT := Rho → Hpe → Res Bool
abbrev FA := Rho → Hpe → Res (List W)
abbrev Cls := Nat → Option Value
def ExR (G : GC) (cl : Cls) (m : Nat → Addr) (n : Nat) (H : Hp) (x : Exc) (c : Value) (d : Option Addr) : Prop :=
  cl x.cls = some c ∧ ((x.fs = [] ∧ d = none) ∨ ∃ dx kus, d = some dx ∧ H dx = some (.xd kus) ∧ x.fs.map (·.1) = kus.map (·.1) ∧ RWs G m n H (x.fs.map (·.2)) (kus.map (·.2)))
theorem ExR.mono {G : GC} {cl : Cls} {m m' : Nat → Addr} {n n' : Nat} {H H' : Hp} {x : Exc} {c : Value} {d : Option Addr} (r : ExR G cl m n H x c d) (o : ∀ i, i < n → m' i = m i) (l : n ≤ n') (t : TupK H H')
    (k : ∀ dx kus, H dx = some (.xd kus) → H' dx = some (.xd kus)) : ExR G cl m' n' H' x c d := by
  obtain ⟨a, b⟩ := r
  refine ⟨a, ?_⟩
  rcases b with b | ⟨dx, kus, b1, b2, b3, b4⟩
  · exact .inl b
  · exact .inr ⟨dx, kus, b1, k _ _ b2, b3, b4.mono o l t⟩
abbrev CF := Nat → Addr → List V → Prop
mutual
inductive RC (G : GC) (cf : CF) (m : Nat → Addr) (n : Nat) (H : Hp) : W → V → Prop
  | rw {w : W} {v : V} : RW G m n H w v → RC G cf m n H w v
  | clo {k : Nat} {ws : List W} {f : Addr} {vs : List V} : cf k f vs → RCs G cf m n H ws vs → RC G cf m n H (.clo k ws) (.ref f)
inductive RCs (G : GC) (cf : CF) (m : Nat → Addr) (n : Nat) (H : Hp) : List W → List V → Prop
  | nil : RCs G cf m n H [] []
  | cons {w : W} {ws : List W} {v : V} {vs : List V} : RC G cf m n H w v → RCs G cf m n H ws vs → RCs G cf m n H (w :: ws) (v :: vs)
end
section
variable {G : GC} {cf cf' : CF} {m m' : Nat → Addr} {n n' : Nat} {H H' : Hp}
theorem RC.map {w : W} {v : V} (r : RC G cf m n H w v) (o : ∀ i, i < n → m' i = m i) (l : n ≤ n') (t : TupK H H') (c : ∀ k f vs, cf k f vs → cf' k f vs) : RC G cf' m' n' H' w v :=
  RC.rec (motive_1 := fun w v _ => RC G cf' m' n' H' w v) (motive_2 := fun ws vs _ => RCs G cf' m' n' H' ws vs) (fun a => .rw (a.mono o l t)) (fun a _ ih => .clo (c _ _ _ a) ih) .nil (fun _ _ a b => .cons a b) r
theorem RCs.map : ∀ {ws : List W} {vs : List V}, RCs G cf m n H ws vs → (∀ i, i < n → m' i = m i) → n ≤ n' → TupK H H' → (∀ k f vs, cf k f vs → cf' k f vs) → RCs G cf' m' n' H' ws vs
  | _, _, .nil, _, _, _, _ => .nil
  | _, _, .cons a b, o, l, t, c => .cons (a.map o l t c) (b.map o l t c)
theorem RC.mono {w : W} {v : V} (r : RC G cf m n H w v) (o : ∀ i, i < n → m' i = m i) (l : n ≤ n') (t : TupK H H') : RC G cf m' n' H' w v := r.map o l t fun _ _ _ h => h
theorem RCs.of {ws : List W} {vs : List V} : RWs G m n H ws vs → RCs G cf m n H ws vs
  | .nil => .nil
  | .cons a b => .cons (.rw a) (RCs.of b)
theorem RCs.len : ∀ {ws : List W} {vs : List V}, RCs G cf m n H ws vs → ws.length = vs.length
  | _, _, .nil => rfl
  | _, _, .cons _ b => congrArg (· + 1) b.len
theorem RCs.app : ∀ {ws : List W} {vs : List V} {ws' : List W} {vs' : List V}, RCs G cf m n H ws vs → RCs G cf m n H ws' vs' → RCs G cf m n H (ws ++ ws') (vs ++ vs')
  | _, _, _, _, .nil, h => h
  | _, _, _, _, .cons a b, h => .cons a (b.app h)
theorem RCs.get : ∀ {ws : List W} {vs : List V} {i : Nat} {w : W}, RCs G cf m n H ws vs → ws[i]? = some w → ∃ v, vs[i]? = some v ∧ RC G cf m n H w v
  | _, _, _, _, .nil, e => by simp at e
  | _, _, 0, _, .cons a b, e => by simp at e; subst e; exact ⟨_, rfl, a⟩
  | _, _, i + 1, _, .cons a b, e => by
    obtain ⟨v, h1, h2⟩ := b.get (i := i) (by simpa using e)
    exact ⟨v, by simpa using h1, h2⟩
def noClo : W → Bool
  | .clo _ _ => false
  | _ => true
theorem RC.rw_of {w : W} {v : V} (r : RC G cf m n H w v) (h : noClo w = true) : RW G m n H w v := by
  cases r with
  | rw a => exact a
  | clo _ _ => cases h
end
structure SS (G : GC) (cf : CF) (m : Nat → Addr) (h : Hpe) (ρ : Rho) (σ : L2.St) (H : Hp) : Prop where
  rh : RH G m h H
  len : ρ.length = σ.length
  sl : ∀ (i : Nat) (w : W), ρ[i]? = some (some w) → ∃ v, σ[i]? = some (some v) ∧ RC G cf m h.nx H w v
def Out {α β : Type} (G : GC) (cl : Cls) (R : (Nat → Addr) → Nat → Hp → α → β → Prop) (Wx : Value → Option Addr → Hp → Prop) (m : Nat → Addr) (h : Hpe) (H : Hp) : Res α → (β → Hp → Prop) → Prop
  | .ok a h', Q => ∀ m' H' v, RH G m' h' H' → Mv m h.nx H m' h'.nx H' → R m' h'.nx H' a v → Q v H'
  | .ex x h', _ => ∀ m' H' c d, RH G m' h' H' → Mv m h.nx H m' h'.nx H' → ExR G cl m' h'.nx H' x c d → Wx c d H'
  | .no, _ => False
abbrev RB : (Nat → Addr) → Nat → Hp → Bool → Bool → Prop := fun _ _ _ a b => a = b
section
variable {α β γ δ : Type} {G : GC} {cl : Cls} {R : (Nat → Addr) → Nat → Hp → α → β → Prop} {R' : (Nat → Addr) → Nat → Hp → γ → δ → Prop} {Wx : Value → Option Addr → Hp → Prop} {m m1 : Nat → Addr} {h h1 : Hpe} {H H1 : Hp}
theorem Out.mono {r : Res α} {Q Q' : β → Hp → Prop} (o : Out G cl R Wx m h H r Q) (f : ∀ v H', Q v H' → Q' v H') : Out G cl R Wx m h H r Q' := by
  cases r with
  | ok a h' => exact fun m' H' v a b c => f _ _ (o m' H' v a b c)
  | ex x h' => exact o
  | no => exact o
theorem Out.shift {r : Res α} {Q : β → Hp → Prop} (rh : RH G m h H) (rh1 : RH G m1 h1 H1) (mv : Mv m h.nx H m1 h1.nx H1) (o : Out G cl R Wx m h H r Q) : Out G cl R Wx m1 h1 H1 r Q := by
  cases r with
  | ok a h' => exact fun m' H' v a b c => o m' H' v a (mv.trans (rh1.mv_ne mv) b) c
  | ex x h' => exact fun m' H' c d a b e => o m' H' c d a (mv.trans (rh1.mv_ne mv) b) e
  | no => exact o
theorem Out.bind {r : Res α} {k : α → Hpe → Res γ} {Q : δ → Hp → Prop} (rh : RH G m h H) (o : Out G cl R' Wx m h H (r.bind k) Q) :
    Out G cl R Wx m h H r fun v H1 => ∃ a m1 h1, RH G m1 h1 H1 ∧ Mv m h.nx H m1 h1.nx H1 ∧ R m1 h1.nx H1 a v ∧ Out G cl R' Wx m1 h1 H1 (k a h1) Q := by
  cases r with
  | ok a h' => exact fun m' H' v a' b c => ⟨a, m', h', a', b, c, Out.shift rh a' b o⟩
  | ex x h' => exact o
  | no => exact o
end
section
variable {G : GC} {cf : CF} {m m1 : Nat → Addr} {h h1 : Hpe} {H H1 : Hp} {ρ : Rho} {σ : L2.St}
theorem SS.mv (s : SS G cf m h ρ σ H) (rh : RH G m1 h1 H1) (mv : Mv m h.nx H m1 h1.nx H1) : SS G cf m1 h1 ρ σ H1 :=
  ⟨rh, s.len, fun i w e => let ⟨v, e1, r⟩ := s.sl i w e; ⟨v, e1, r.mono mv.old mv.le (mv.tupk s.rh)⟩⟩
end
def tE (G : GC) (cf : CF) (cl : Cls) (Wx : WX) (f : FE) : TE := fun σ H Q => ∃ m h ρ, SS G cf m h ρ σ H ∧ Out G cl (RW G) (fun c d H' => Wx c d σ H') m h H (f ρ h) Q
def tT (G : GC) (cf : CF) (cl : Cls) (Wx : WX) (f : FT) : TT := fun σ H Q => ∃ m h ρ, SS G cf m h ρ σ H ∧ Out G cl RB (fun c d H' => Wx c d σ H') m h H (f ρ h) Q
def tA (G : GC) (cf : CF) (cl : Cls) (Wx : WX) (f : FA) : TA := fun σ H Q => ∃ m h ρ, SS G cf m h ρ σ H ∧ Out G cl (RWs G) (fun c d H' => Wx c d σ H') m h H (f ρ h) Q
structure Bx where
  G : GC
  cl : Cls
  W : WX
  cf : CF
def SE (X : Cx) (B : Bx) (e : Expr) (f : FE) : Prop := PE X e (tE B.G B.cf B.cl B.W f)
def ST (X : Cx) (B : Bx) (e : Expr) (f : FT) : Prop := PT X e (tT B.G B.cf B.cl B.W f)
def SW (X : Cx) (B : Bx) (e : Expr) (f : FT) : Prop := PW X e (tT B.G B.cf B.cl B.W f)
def SA (X : Cx) (B : Bx) (es : List Expr) (f : FA) : Prop := PA X es (tA B.G B.cf B.cl B.W f)
theorem pe_imp {X : Cx} {e : Expr} {t t' : TE} (h : PE X e t) (i : ∀ σ H Q, t' σ H Q → t σ H Q) : PE X e t' := ⟨fun pins s σ H Q I q => h.run pins s σ H Q I (i σ H Q q)⟩
theorem pt_imp {X : Cx} {e : Expr} {t t' : TT} (h : PT X e t) (i : ∀ σ H Q, t' σ H Q → t σ H Q) : PT X e t' := ⟨fun pins s σ H Q I q => h.run pins s σ H Q I (i σ H Q q)⟩
theorem pw_imp {X : Cx} {e : Expr} {t t' : TT} (h : PW X e t) (i : ∀ σ H Q, t' σ H Q → t σ H Q) : PW X e t' := ⟨fun wh pins s σ H Q I q => h.run wh pins s σ H Q I (i σ H Q q)⟩
theorem pa_imp {X : Cx} {e : List Expr} {t t' : TA} (h : PA X e t) (i : ∀ σ H Q, t' σ H Q → t σ H Q) : PA X e t' := ⟨fun pos pins s σ H Q I q => h.run pos pins s σ H Q I (i σ H Q q)⟩
section
variable {X : Cx} {B : Bx} {a b c e : Expr} {es : List Expr} {fa fb fc f : FE} {ft : FT} {fs : FA} {pos p : Pos} {j : Nat}
def eV (i : Nat) : FE := fun ρ h => match nthR ρ i with
  | some (some w) => bif noClo w then .ok w h else .no
  | _ => .no
def eK (w : W) : FE := fun _ h => .ok w h
theorem se_v (i : Nat) {x : Str} (hN : X.N[i]? = some x) (hv : Vis X.env.scope x) (hd : (x == ("__debug__" : Str)) = false) (hcd : (x == ("__classdict__" : Str)) = false) : SE X B (.Name x pos) (eV i) :=
  pe_imp (pe_var hN hv hd hcd) fun σ H Q ⟨m, h, ρ, s, o⟩ => by
    simp only [eV, nthR_eq] at o
    split at o
    · rename_i w e
      obtain ⟨v, e1, r⟩ := s.sl i w e
      cases c : noClo w with
      | false => rw [c] at o; exact o.elim
      | true => rw [c] at o; exact ⟨v, e1, o m H v s.rh Mv.refl (r.rw_of c)⟩
    · exact o.elim
theorem se_c {w : W} {v : V} (h : PE X e (L2.tC v)) (r : ∀ m n H, RW B.G m n H w v) : SE X B e (eK w) :=
  pe_imp h fun σ H Q ⟨m, h, ρ, s, o⟩ => o m H v s.rh Mv.refl (r _ _ _)
theorem se_int {i : Int} : SE X B (.Constant (.int i) j pos) (eK (.int i)) := se_c pe_int fun _ _ _ => .int i
theorem se_bl {i : Bool} : SE X B (.Constant (.bool i) j pos) (eK (.bl i)) := se_c pe_bl fun _ _ _ => .bl i
theorem se_non : SE X B (.Constant .none j pos) (eK .non) := se_c pe_non fun _ _ _ => .non
theorem se_str {x : Str} : SE X B (.Constant (.str x) j pos) (eK (.str x)) := se_c pe_str fun _ _ _ => .str x
def aN : FA := fun _ h => .ok [] h
def aC (f : FE) (fs : FA) : FA := fun ρ h => (f ρ h).bind fun w h1 => (fs ρ h1).bind fun ws h2 => .ok (w :: ws) h2
theorem sa_nil : SA X B [] aN := pa_imp pa_nil fun σ H Q ⟨m, h, ρ, s, o⟩ => o m H [] s.rh Mv.refl .nil
theorem sa_cons (ha : SE X B e f) (hr : SA X B es fs) (hs : starEach (e :: es) X.env = (false, eval e X.env) :: starEach es X.env) : SA X B (e :: es) (aC f fs) :=
  pa_imp (pa_cons ha hr hs) fun σ H Q ⟨m, h, ρ, s, o⟩ => ⟨m, h, ρ, s, (Out.bind s.rh o).mono fun v H1 ⟨w, m1, h1, r1, v1, q1, o1⟩ =>
    ⟨m1, h1, ρ, s.mv r1 v1, (Out.bind r1 o1).mono fun vs H2 ⟨ws, m2, h2, r2, v2, q2, o2⟩ => o2 m2 H2 _ r2 Mv.refl (.cons (q1.mono v2.old v2.le (v2.tupk r1)) q2)⟩⟩
def Hpe.al (h : Hpe) (o : Ob) : Res W := bif Nat.blt h.nx 1099511627776 then .ok (.ref h.nx) (h.new o) else .no
def line (n : Nat) : Bool := Nat.ble n 100000
theorem line_le {n : Nat} (h : line n = true) : n ≤ sizeLine := Nat.le_trans (Nat.le_of_ble_eq_true h) (by decide)
theorem al_ok {G : GC} {cl : Cls} {Wx : Value → Option Addr → Hp → Prop} {m : Nat → Addr} {h : Hpe} {H : Hp} {o : Ob} {ho : HO} {Q : VK} (rh : RH G m h H) (out : Out G cl (RW G) Wx m h H (h.al o) Q) (ro : RO G m h.nx H 0 o ho) (hnd : o.plain = true := by rfl) : ∀ p, H p = none → Q (.ref p) (upd H p ho) := by
  intro p hp
  unfold Hpe.al at out
  cases c : Nat.blt h.nx 1099511627776 with
  | false => rw [c] at out; exact out.elim
  | true =>
    rw [c] at out
    have lt : h.nx < 1099511627776 := Nat.le_of_ble_eq_true c
    obtain ⟨m', r', v', rfl⟩ := rh.alloc (by unfold Hpe.ok; exact Nat.ble_eq_true_of_le rh.sz) lt (ro.any hnd) hp
    exact out m' _ _ r' v' (.ref h.nx (Nat.lt_succ_self _))
theorem al_okA {G : GC} {cl : Cls} {Wx : Value → Option Addr → Hp → Prop} {m : Nat → Addr} {h : Hpe} {H : Hp} {o : Ob} {ho : Addr → HO} {Q : VK} (rh : RH G m h H) (out : Out G cl (RW G) Wx m h H (h.al o) Q) (ro : ∀ p, RO G m h.nx H p o (ho p)) : ∀ p, H p = none → Q (.ref p) (upd H p (ho p)) := by
  intro p hp
  unfold Hpe.al at out
  cases c : Nat.blt h.nx 1099511627776 with
  | false => rw [c] at out; exact out.elim
  | true =>
    rw [c] at out
    have lt : h.nx < 1099511627776 := Nat.le_of_ble_eq_true c
    obtain ⟨m', r', v', rfl⟩ := rh.alloc (by unfold Hpe.ok; exact Nat.ble_eq_true_of_le rh.sz) lt (ro p) hp
    exact out m' _ _ r' v' (.ref h.nx (Nat.lt_succ_self _))
def eTup (fs : FA) : FE := fun ρ h => (fs ρ h).bind fun ws h1 => bif line ws.length then .ok (.tup ws) h1 else .no
def eLst (fs : FA) : FE := fun ρ h => (fs ρ h).bind fun ws h1 => bif line ws.length then h1.al (.lst ws) else .no
theorem tup_ok {G : GC} {cl : Cls} {Wx : Value → Option Addr → Hp → Prop} {m : Nat → Addr} {h : Hpe} {H : Hp} {ws : List W} {vs : List V} {Q : VK} (rh : RH G m h H) (out : Out G cl (RW G) Wx m h H (.ok (.tup ws) h) Q) (r : RWs G m h.nx H ws vs) : ∀ p, H p = none → Q (.ref p) (upd H p (.tup vs)) := by
  intro p hp
  obtain ⟨r', v'⟩ := rh.tupNew (ho := .tup vs) hp
  exact out m _ _ r' v' (.tup (SqT.of upd_same) (r.mono (fun _ _ => rfl) (Nat.le_refl _) (v'.tupk rh)))
theorem se_tup {x1} (h : SA X B es fs) : SE X B (.Tuple es x1 pos) (eTup fs) :=
  pe_imp (pe_tup h) fun σ H Q ⟨m, h, ρ, s, o⟩ => ⟨m, h, ρ, s, (Out.bind s.rh o).mono fun vs H1 ⟨ws, m1, h1, r1, v1, q1, o1⟩ => by
    cases c : line ws.length with
    | false => rw [c] at o1; exact o1.elim
    | true => rw [c] at o1; exact ⟨by rw [← q1.len]; exact line_le c, tup_ok r1 o1 q1⟩⟩
theorem se_lst (h : SA X B es fs) : SE X B (.List es pos) (eLst fs) :=
  pe_imp (pe_lst h) fun σ H Q ⟨m, h, ρ, s, o⟩ => ⟨m, h, ρ, s, (Out.bind s.rh o).mono fun vs H1 ⟨ws, m1, h1, r1, v1, q1, o1⟩ => by
    cases c : line ws.length with
    | false => rw [c] at o1; exact o1.elim
    | true => rw [c] at o1; exact ⟨by rw [← q1.len]; exact line_le c, al_ok r1 o1 (.lst q1)⟩⟩
def OpS (G : GC) (r : R2) (g : W → W → Hpe → Res W) : Prop := ∀ (cl : Cls) (Wx : Value → Option Addr → Hp → Prop) (m : Nat → Addr) (h : Hpe) (H : Hp) (a b : W) (x y : V) (Q : VK), RH G m h H → RW G m h.nx H a x → RW G m h.nx H b y →
  Out G cl (RW G) Wx m h H (g a b h) Q → r x y H Q
def e2 (g : W → W → Hpe → Res W) (fa fb : FE) : FE := fun ρ h => (fa ρ h).bind fun a h1 => (fb ρ h1).bind fun b h2 => g a b h2
theorem op2 {r : R2} {g : W → W → Hpe → Res W} (hop : OpS B.G r g) : ∀ σ H Q, tE B.G B.cf B.cl B.W (e2 g fa fb) σ H Q → tOp r (tE B.G B.cf B.cl B.W fa) (tE B.G B.cf B.cl B.W fb) σ H Q :=
  fun σ H Q ⟨m, h, ρ, s, o⟩ => ⟨m, h, ρ, s, (Out.bind s.rh o).mono fun v H1 ⟨w, m1, h1, r1, v1, q1, o1⟩ =>
    ⟨m1, h1, ρ, s.mv r1 v1, (Out.bind r1 o1).mono fun u H2 ⟨w2, m2, h2, r2, v2, q2, o2⟩ => hop B.cl _ m2 h2 H2 w w2 v u Q r2 (q1.mono v2.old v2.le (v2.tupk r1)) q2 o2⟩⟩
theorem se_op {op : Operator} {r : R2} {g : W → W → Hpe → Res W} (ho : OpR X (binaryOp op) r) (h : OpS B.G r g) (ha : SE X B a fa) (hb : SE X B b fb) : SE X B (.BinOp a op b pos) (e2 g fa fb) := pe_imp (pe_op ho ha hb) (op2 h)
theorem se_cmp {op : CmpOp} {r : R2} {g : W → W → Hpe → Res W} (ho : OpR X (compareOp op) r) (h : OpS B.G r g) (ha : SE X B a fa) (hb : SE X B b fb) (hm : behindInMarks op b = false) : SE X B (.Compare a [op] [b] pos) (e2 g fa fb) :=
  pe_imp (pe_cmpR ho ha hb hm) (op2 h)
def asB (f : FE) : FT := fun ρ h => (f ρ h).bind fun w h1 => match w with
  | .bl b => .ok b h1
  | _ => .no
theorem asB_ok {m : Nat → Addr} {n : Nat} {G : GC} {H : Hp} {b : Bool} {v : V} (r : RW G m n H (.bl b) v) : v = .bl b := by cases r; rfl
theorem as_test {t : TE} (i : ∀ σ H Q, tE B.G B.cf B.cl B.W f σ H Q → t σ H Q) : ∀ σ H Q, tT B.G B.cf B.cl B.W (asB f) σ H Q → tTest t σ H Q := fun σ H Q ⟨m, h, ρ, s, o⟩ =>
  i σ H _ ⟨m, h, ρ, s, (Out.bind s.rh o).mono fun v H1 ⟨w, m1, h1, r1, v1, q1, o1⟩ => by
    cases w with
    | bl b => obtain rfl := asB_ok q1; exact ⟨b, rfl, o1 m1 H1 b r1 Mv.refl rfl⟩
    | _ => exact o1.elim⟩
theorem st_cmp {op : CmpOp} {r : R2} {g : W → W → Hpe → Res W} (ho : OpR X (compareOp op) r) (h : OpS B.G r g) (ha : SE X B a fa) (hb : SE X B b fb) (hm : behindInMarks op b = false) : ST X B (.Compare a [op] [b] pos) (asB (e2 g fa fb)) :=
  pt_imp (pt_cmpR ho ha hb hm) (as_test (op2 h))
def truW : W → Hpe → Option Bool
  | .non, _ => some false
  | .bl b, _ => some b
  | .int i, _ => some (i != 0)
  | .tup ws, _ => some (!ws.isEmpty)
  | .ref n, h => match h.get n with
    | some (.lst ws) => some (!ws.isEmpty)
    | some (.fz ws) => some (!ws.isEmpty)
    | some (.dk kvs) => some (!kvs.isEmpty)
    | _ => none
  | _, _ => none
def asT (f : FE) : FT := fun ρ h => (f ρ h).bind fun w h1 => match truW w h1 with
  | some b => .ok b h1
  | none => .no
theorem emp_len {α β : Type} {xs : List α} {ys : List β} (h : xs.length = ys.length) : xs.isEmpty = ys.isEmpty := by
  cases xs <;> cases ys <;> simp at h <;> rfl
theorem RH.lst {G : GC} {m : Nat → Addr} {h : Hpe} {H : Hp} (r : RH G m h H) {i : Nat} {ws : List W} (hi : i < h.nx) (e : h.get i = some (.lst ws)) : ∃ xs, H (m i) = some (.lst xs) ∧ RWs G m h.nx H ws xs := by
  obtain ⟨o, ho, q1, q2, q3⟩ := r.obj i hi
  rw [e] at q1; cases q1
  cases q3 with
  | lst q => exact ⟨_, q2, q⟩
def rdL (h : Hpe) (i : Nat) : Option (List W) := match h.get i with
  | some (.lst ws) => some ws
  | some (.fz ws) => some ws
  | _ => none
theorem RH.rd {G : GC} {m : Nat → Addr} {h : Hpe} {H : Hp} (r : RH G m h H) {i : Nat} {ws : List W} (hi : i < h.nx) (e : rdL h i = some ws) : ∃ xs, SqL G.K H (m i) xs ∧ RWs G m h.nx H ws xs := by
  obtain ⟨o, ho, q1, q2, q3⟩ := r.obj i hi
  unfold rdL at e
  rw [q1] at e
  cases q3 with
  | lst q => cases e; exact ⟨_, .inl (.inl q2), q⟩
  | fz q => cases e; exact ⟨_, .inl (.inr ⟨_, q2⟩), q⟩
  | dk _ _ => cases e
  | dn _ _ _ _ => cases e
  | st _ _ _ => cases e
  | si _ => cases e
  | ob _ _ _ => cases e
  | fd _ _ => cases e
  | fn _ _ _ _ => cases e
  | pt _ _ => cases e
  | er0 _ => cases e
  | er1 _ _ => cases e
  | xo => cases e
theorem tru_ok {G : GC} {m : Nat → Addr} {h : Hpe} {H : Hp} {w : W} {v : V} {b : Bool} (rh : RH G m h H) (r : RW G m h.nx H w v) (e : truW w h = some b) : TruV G.K v H b := by
  cases r with
  | non => cases e; rfl
  | bl c => cases e; rfl
  | int i => cases e; rfl
  | str x => cases e
  | tup s q => cases e; exact .inr (.inl ⟨_, s, by rw [emp_len q.len]⟩)
  | df _ => cases e
  | ref i hi =>
    obtain ⟨o, ho, q1, q2, q3⟩ := rh.obj i hi
    simp only [truW, q1] at e
    cases q3 with
    | lst q => cases e; exact .inl ⟨_, .inl (.inl q2), by rw [emp_len q.len]⟩
    | fz q => cases e; exact .inl ⟨_, .inl (.inr ⟨_, q2⟩), by rw [emp_len q.len]⟩
    | dk q q' => cases e; exact .inr (.inr ⟨_, q2, by rw [emp_len (by simpa using congrArg List.length q)]⟩)
    | dn _ _ _ _ => cases e
    | st _ _ _ => cases e
    | si _ => cases e
    | ob _ _ _ => cases e
    | fd _ _ => cases e
    | fn _ _ _ _ => cases e
    | pt _ _ => cases e
    | er0 _ => cases e
    | er1 _ _ => cases e
    | xo => cases e
theorem st_tru (hK : X.K = B.G.K) (h : SE X B e f) (ht : ∀ whole : Sem Value, isTrue e X.env whole = (do let v ← whole; standAt e.pos; holding [v] (truthy v))) : ST X B e (asT f) :=
  pt_imp (pt_truth h ht) fun σ H Q ⟨m, h, ρ, s, o⟩ => ⟨m, h, ρ, s, (Out.bind s.rh o).mono fun v H1 ⟨w, m1, h1, r1, v1, q1, o1⟩ => by
    cases c : truW w h1 with
    | none => rw [c] at o1; exact o1.elim
    | some b => rw [c] at o1; exact ⟨b, by rw [hK]; exact tru_ok r1 q1 c, o1 m1 H1 b r1 Mv.refl rfl⟩⟩
def tNt (f : FT) : FT := fun ρ h => (f ρ h).bind fun b h1 => .ok (!b) h1
theorem st_not (h : ST X B a ft) : ST X B (.UnaryOp .Not a pos) (tNt ft) :=
  pt_imp (pt_not h) fun σ H Q ⟨m, h, ρ, s, o⟩ => ⟨m, h, ρ, s, (Out.bind s.rh o).mono fun v H1 ⟨w, m1, h1, r1, v1, q1, o1⟩ => by subst q1; exact o1 m1 H1 _ r1 Mv.refl rfl⟩
def tAn (f g : FT) : FT := fun ρ h => (f ρ h).bind fun b h1 => bif b then g ρ h1 else .ok false h1
def tOr' (f g : FT) : FT := fun ρ h => (f ρ h).bind fun b h1 => bif b then .ok true h1 else g ρ h1
variable {f1 f2 : FT} {rest : List Expr}
theorem sw_and1 (h : ST X B a f1) : SW X B (.BoolOp .And [a] pos) f1 := pw_and1 h
theorem sw_or1 (h : ST X B a f1) : SW X B (.BoolOp .Or [a] pos) f1 := pw_or1 h
theorem sw_and (h : ST X B a f1) (h' : SW X B (.BoolOp .And (b :: rest) pos) f2) : SW X B (.BoolOp .And (a :: b :: rest) pos) (tAn f1 f2) :=
  pw_imp (pw_and h h') fun σ H Q ⟨m, h, ρ, s, o⟩ => ⟨m, h, ρ, s, (Out.bind s.rh o).mono fun v H1 ⟨w, m1, h1, r1, v1, q1, o1⟩ => by
    subst q1
    cases w with
    | true => rw [if_pos rfl]; exact ⟨m1, h1, ρ, s.mv r1 v1, o1⟩
    | false => rw [if_neg (by decide)]; exact o1 m1 H1 _ r1 Mv.refl rfl⟩
theorem sw_or (h : ST X B a f1) (h' : SW X B (.BoolOp .Or (b :: rest) pos) f2) : SW X B (.BoolOp .Or (a :: b :: rest) pos) (tOr' f1 f2) :=
  pw_imp (pw_or h h') fun σ H Q ⟨m, h, ρ, s, o⟩ => ⟨m, h, ρ, s, (Out.bind s.rh o).mono fun v H1 ⟨w, m1, h1, r1, v1, q1, o1⟩ => by
    subst q1
    cases w with
    | true => rw [if_pos rfl]; exact o1 m1 H1 _ r1 Mv.refl rfl
    | false => rw [if_neg (by decide)]; exact ⟨m1, h1, ρ, s.mv r1 v1, o1⟩⟩
theorem SW.st (h : SW X B e ft) : ST X B e ft := PW.pt h
def eIf (t : FT) (fa fb : FE) : FE := fun ρ h => (t ρ h).bind fun b h1 => bif b then fa ρ h1 else fb ρ h1
theorem se_if (hc : ST X B c ft) (ha : SE X B a fa) (hb : SE X B b fb) : SE X B (.IfExp c a b pos) (eIf ft fa fb) :=
  pe_imp (pe_ifExp hc ha hb) fun σ H Q ⟨m, h, ρ, s, o⟩ => ⟨m, h, ρ, s, (Out.bind s.rh o).mono fun v H1 ⟨w, m1, h1, r1, v1, q1, o1⟩ => by
    subst q1
    cases w with
    | true => rw [if_pos rfl]; exact ⟨m1, h1, ρ, s.mv r1 v1, o1⟩
    | false => rw [if_neg (by decide)]; exact ⟨m1, h1, ρ, s.mv r1 v1, o1⟩⟩
def eAn (fa fb : FE) : FE := fun ρ h => (fa ρ h).bind fun w h1 => match w with
  | .bl true => fb ρ h1
  | .bl false => .ok (.bl false) h1
  | _ => .no
theorem se_one {op} (h : SE X B a fa) : SE X B (.BoolOp op [a] pos) fa := pe_one h
theorem se_and (ha : SE X B a fa) (hb : SE X B (.BoolOp .And (b :: rest) pos) fb) : SE X B (.BoolOp .And (a :: b :: rest) pos) (eAn fa fb) :=
  pe_imp (pe_and ha hb) fun σ H Q ⟨m, h, ρ, s, o⟩ => ⟨m, h, ρ, s, (Out.bind s.rh o).mono fun v H1 ⟨w, m1, h1, r1, v1, q1, o1⟩ => by
    cases w with
    | bl d =>
      obtain rfl := asB_ok q1
      cases d with
      | true => exact ⟨true, rfl, by rw [if_pos rfl]; exact ⟨m1, h1, ρ, s.mv r1 v1, o1⟩⟩
      | false => exact ⟨false, rfl, by rw [if_neg (by decide)]; exact o1 m1 H1 _ r1 Mv.refl (.bl _)⟩
    | _ => exact o1.elim⟩
end
end EV
namespace DL
open PySem PySem.Spec PyProof.Rows L2
def hide (H : Hp) (l : List Addr) : Hp := fun a => if a ∈ l then none else H a
theorem hide_in {H : Hp} {l : List Addr} {a : Addr} (h : a ∈ l) : hide H l a = none := if_pos h
theorem hide_out {H : Hp} {l : List Addr} {a : Addr} (h : a ∉ l) : hide H l a = H a := if_neg h
theorem hide_some {H : Hp} {l : List Addr} {a : Addr} {o : HO} (h : hide H l a = some o) : a ∉ l ∧ H a = some o := by
  by_cases c : a ∈ l
  · rw [hide_in c] at h; cases h
  · rw [hide_out c] at h; exact ⟨c, h⟩
theorem hide_same (H : Hp) (l : List Addr) : Same (hide H l) H := fun b o h => (hide_some h).2
theorem hide_mono {H H' : Hp} {l : List Addr} (e : Same H H') : Same (hide H l) (hide H' l) := fun b o h => by
  obtain ⟨c, h⟩ := hide_some h
  rw [hide_out c]; exact e _ _ h
theorem same_new {H : Hp} {p : Addr} (h : H p = none) (o : HO) : Same H (upd H p o) := fun b u q => by rw [upd_ne (ne_of_none q h)]; exact q
theorem seqT {K : PySem.W.Frag} {H H' : Hp} {a : Addr} {xs : List V} (e : Same H H') (h : SqT K H a xs) : SqT K H' a xs := by
  rcases h with (h | ⟨o, h⟩) | h
  · exact .inl (.inl (e _ _ h))
  · exact .inl (.inr ⟨o, e _ _ h⟩)
  · exact .inr h
def keyD : Key → PyData
  | .inl i => .int i
  | .inr x => .str x
def dkD (kvs : List (Key × PyData)) : PyData := .dict (kvs.map fun p => (keyD p.1, p.2))
def dtD (kvs : List (List Key × PyData)) : PyData := .dict (kvs.map fun p => (.tuple (p.1.map keyD), p.2))
mutual
inductive Dq (K : PySem.W.Frag) (H : Hp) : V → PyData → Prop
  | non : Dq K H .non .none
  | bl (b : Bool) : Dq K H (.bl b) (.bool b)
  | int (i : Int) : Dq K H (.int i) (.int i)
  | str (x : Str) : Dq K H (.str x) (.str x)
  | lst {a : Addr} {xs : List V} {ds : List PyData} : SqL K H a xs → DqAll K H xs ds → Dq K H (.ref a) (.list ds)
  | tup {a : Addr} {xs : List V} {ds : List PyData} : SqT K H a xs → DqAll K H xs ds → Dq K H (.ref a) (.tuple ds)
  | dk {a : Addr} {kvs : List (Key × V)} {dvs : List (Key × PyData)} {ps : List (PyData × PyData)} {xs : List V} {ds : List PyData} : H a = some (.dK kvs) → kvs.map (·.1) = dvs.map (·.1) → kvs.map (·.2) = xs → dvs.map (·.2) = ds → DqAll K H xs ds → .dict ps = dkD dvs → Dq K H (.ref a) (.dict ps)
  | dt {a : Addr} {kvs : List (List Key × V)} {dvs : List (List Key × PyData)} {ps : List (PyData × PyData)} {xs : List V} {ds : List PyData} : H a = some (.dT kvs) → kvs.map (·.1) = dvs.map (·.1) → kvs.map (·.2) = xs → dvs.map (·.2) = ds → DqAll K H xs ds → dvs ≠ [] → .dict ps = dtD dvs → Dq K H (.ref a) (.dict ps)
inductive DqAll (K : PySem.W.Frag) (H : Hp) : List V → List PyData → Prop
  | nil : DqAll K H [] []
  | cons {v : V} {vs : List V} {d : PyData} {ds : List PyData} : Dq K H v d → DqAll K H vs ds → DqAll K H (v :: vs) (d :: ds)
end
theorem dp_mono {K : PySem.W.Frag} {H H' : Hp} (e : Same H H') {v : V} {d : PyData} (h : Dq K H v d) : Dq K H' v d :=
  Dq.rec (motive_1 := fun v d _ => Dq K H' v d) (motive_2 := fun vs ds _ => DqAll K H' vs ds) .non (fun b => .bl b) (fun i => .int i) (fun x => .str x) (fun a _ ih => .lst (e.seq a) ih) (fun a _ ih => .tup (seqT e a) ih)
    (fun a p q r _ s ih => .dk (e _ _ a) p q r ih s) (fun a p q r _ n s ih => .dt (e _ _ a) p q r ih n s) .nil (fun _ _ h t => .cons h t) h
theorem dps_mono {K : PySem.W.Frag} {H H' : Hp} (e : Same H H') : ∀ {v : List V} {d : List PyData}, DqAll K H v d → DqAll K H' v d
  | _, _, .nil => .nil
  | _, _, .cons a b => .cons (dp_mono e a) (dps_mono e b)
theorem dps_len {K : PySem.W.Frag} {H : Hp} : ∀ {vs : List V} {ds : List PyData}, DqAll K H vs ds → vs.length = ds.length
  | _, _, .nil => rfl
  | _, _, .cons _ t => congrArg (· + 1) (dps_len t)
theorem dps_get' {K : PySem.W.Frag} {H : Hp} : ∀ {vs : List V} {ds : List PyData} {i : Nat} {v : V}, DqAll K H vs ds → vs[i]? = some v → ∃ d, ds[i]? = some d ∧ Dq K H v d
  | _, _, _, _, .nil, e => by simp at e
  | _, _, 0, _, .cons a t, e => by simp at e; subst e; exact ⟨_, rfl, a⟩
  | _, _, i + 1, _, .cons a t, e => by
    obtain ⟨v, h1, h2⟩ := dps_get' (i := i) t (by simpa using e)
    exact ⟨v, by simpa using h1, h2⟩
inductive OD where
  | lst (ds : List PyData)
  | dk (kvs : List (Key × PyData))
  | dt (kvs : List (List Key × PyData))
def odD : OD → PyData
  | .lst ds => .list ds
  | .dk kvs => dkD kvs
  | .dt kvs => dtD kvs
inductive OQ (K : PySem.W.Frag) (G : Hp) : HO → OD → Prop
  | lst {xs : List V} {ds : List PyData} : DqAll K G xs ds → OQ K G (.lst xs) (.lst ds)
  | dk {kvs : List (Key × V)} {dvs : List (Key × PyData)} : kvs.map (·.1) = dvs.map (·.1) → DqAll K G (kvs.map (·.2)) (dvs.map (·.2)) → OQ K G (.dK kvs) (.dk dvs)
  | dt {kvs : List (List Key × V)} {dvs : List (List Key × PyData)} : kvs.map (·.1) = dvs.map (·.1) → DqAll K G (kvs.map (·.2)) (dvs.map (·.2)) → OQ K G (.dT kvs) (.dt dvs)
theorem OQ.mono {K : PySem.W.Frag} {G G' : Hp} (e : Same G G') {ho : HO} {o : OD} (h : OQ K G ho o) : OQ K G' ho o := by
  cases h with
  | lst a => exact .lst (dps_mono e a)
  | dk a b => exact .dk a (dps_mono e b)
  | dt a b => exact .dt a (dps_mono e b)
def okO : OD → Prop
  | .dt kvs => kvs ≠ []
  | _ => True
theorem OQ.dq {K : PySem.W.Frag} {G : Hp} {ho : HO} {o : OD} {a : Addr} (h : OQ K G ho o) (e : G a = some ho) (n : okO o) : Dq K G (.ref a) (odD o) := by
  cases h with
  | lst q => exact .lst (SqL.of e) q
  | dk p q => exact .dk e p rfl rfl q rfl
  | dt p q => exact .dt e p rfl rfl q n rfl
inductive Slot where
  | un
  | d (d : PyData)
  | obj (o : OD)
  | urn (n : Nat)
abbrev Slot.own (ds : List PyData) : Slot := .obj (.lst ds)
abbrev Env := List Slot
def UrnAt (H : Hp) (u : Addr) (n : Nat) : Prop := ∃ (b s : Int) (k : Nat), H u = some (.lst [.int b, .int s, .int (k : Int)]) ∧ 0 ≤ b ∧ 0 ≤ s ∧ s < 2 ^ 62 ∧ k ≤ n
inductive RepS (K : PySem.W.Frag) (G H : Hp) (U : List Addr) : List (Option V) → Env → List Addr → Prop
  | nil : RepS K G H U [] [] []
  | un {x σ ρ as} : RepS K G H U σ ρ as → RepS K G H U (x :: σ) (.un :: ρ) as
  | d {v d σ ρ as} : Dq K G v d → RepS K G H U σ ρ as → RepS K G H U (some v :: σ) (.d d :: ρ) as
  | obj {a ho o σ ρ as} : H a = some ho → OQ K G ho o → a ∉ as → RepS K G H U σ ρ as → RepS K G H U (some (.ref a) :: σ) (.obj o :: ρ) (a :: as)
  | urn {a n σ ρ as} : UrnAt H a n → a ∈ U → RepS K G H U σ ρ as → RepS K G H U (some (.ref a) :: σ) (.urn n :: ρ) as
structure Fx where
  N : List Addr
  He : Hp
  U : List Addr
def SameBut (U : List Addr) (H H' : Hp) : Prop := ∀ b o, b ∉ U → H b = some o → H' b = some o
theorem SameBut.trans {U : List Addr} {H H1 H2 : Hp} (a : SameBut U H H1) (b : SameBut U H1 H2) : SameBut U H H2 := fun c o z h => b c o z (a c o z h)
structure Rep (K : PySem.W.Frag) (C : Fx) (as : List Addr) (H : Hp) (σ : List (Option V)) (ρ : Env) : Prop where
  rep : RepS K (hide H (as ++ C.N)) H C.U σ ρ as
  ent : SameBut C.U C.He H
  own : ∀ a ∈ as, C.He a = none
  hid : ∀ a ∈ C.N, C.He a ≠ none
  unn : ∀ u ∈ C.U, u ∈ C.N ∧ H u ≠ none
structure Keep (l : List Addr) (H H' : Hp) : Prop where
  see : Same (hide H l) (hide H' l)
  all : ∀ a, H a ≠ none → H' a ≠ none
theorem Keep.refl (l : List Addr) (H : Hp) : Keep l H H := ⟨Same.refl _, fun _ h => h⟩
theorem Keep.trans {l : List Addr} {H H1 H2 : Hp} (a : Keep l H H1) (b : Keep l H1 H2) : Keep l H H2 := ⟨a.see.trans b.see, fun x h => b.all x (a.all x h)⟩
theorem Keep.new {l : List Addr} {H : Hp} {p : Addr} (h : H p = none) (o : HO) : Keep l H (upd H p o) := ⟨hide_mono (same_new h o), fun a z => by
  by_cases c : a = p
  · rw [c, upd_same]; exact fun q => by cases q
  · rw [upd_ne c]; exact z⟩
theorem Keep.of {l : List Addr} {H H' : Hp} (e : Same H H') : Keep l H H' := ⟨hide_mono e, fun a z => by
  cases q : H a with
  | none => exact absurd q z
  | some o => rw [e a o q]; exact fun z => by cases z⟩
section
variable {K : PySem.W.Frag} {G G' H H' : Hp} {U as : List Addr} {σ : List (Option V)} {ρ : Env}
theorem UrnAt.some {u : Addr} {n : Nat} (h : UrnAt H u n) : H u ≠ none := by
  obtain ⟨b, s, k, e, _⟩ := h
  rw [e]; exact fun z => by cases z
theorem UrnAt.more {u : Addr} {n n' : Nat} (h : UrnAt H u n) (e : n ≤ n') : UrnAt H u n' := by
  obtain ⟨b, s, k, e1, h0, h1, h2, h3⟩ := h
  exact ⟨b, s, k, e1, h0, h1, h2, Nat.le_trans h3 e⟩
theorem RepS.len (r : RepS K G H U σ ρ as) : σ.length = ρ.length := by
  induction r with
  | nil => rfl
  | un _ ih => simp [ih]
  | d _ _ ih => simp [ih]
  | obj _ _ _ _ ih => simp [ih]
  | urn _ _ _ ih => simp [ih]
theorem RepS.mono (r : RepS K G H U σ ρ as) (e : Same G G') (ha : ∀ a ∈ as, H' a = H a) (hu : ∀ u n, u ∈ U → UrnAt H u n → UrnAt H' u n) : RepS K G' H' U σ ρ as := by
  induction r with
  | nil => exact .nil
  | un _ ih => exact .un (ih ha)
  | d h _ ih => exact .d (dp_mono e h) (ih ha)
  | obj h1 h2 h3 _ ih => exact .obj ((ha _ (List.mem_cons_self ..)).trans h1) (h2.mono e) h3 (ih fun a h => ha a (List.mem_cons_of_mem _ h))
  | urn h1 h2 _ ih => exact .urn (hu _ _ h2 h1) h2 (ih ha)
theorem RepS.get (r : RepS K G H U σ ρ as) : ∀ {i : Nat} {d : PyData}, ρ[i]? = some (.d d) → ∃ v, σ[i]? = some (some v) ∧ Dq K G v d := by
  induction r with
  | nil => intro i d e; simp at e
  | un _ ih =>
    intro i d e
    cases i with
    | zero => simp at e
    | succ i => exact ih (i := i) (by simpa using e)
  | d h _ ih =>
    intro i d e
    cases i with
    | zero => simp at e; subst e; exact ⟨_, rfl, h⟩
    | succ i => exact ih (i := i) (by simpa using e)
  | obj _ _ _ _ ih =>
    intro i d e
    cases i with
    | zero => simp at e
    | succ i => exact ih (i := i) (by simpa using e)
  | urn _ _ _ ih =>
    intro i d e
    cases i with
    | zero => simp at e
    | succ i => exact ih (i := i) (by simpa using e)
theorem RepS.getObj (r : RepS K G H U σ ρ as) : ∀ {i : Nat} {o : OD}, ρ[i]? = some (.obj o) → ∃ a ho, σ[i]? = some (some (.ref a)) ∧ a ∈ as ∧ H a = some ho ∧ OQ K G ho o := by
  induction r with
  | nil => intro i d e; simp at e
  | un _ ih =>
    intro i d e
    cases i with
    | zero => simp at e
    | succ i => exact ih (i := i) (by simpa using e)
  | d h _ ih =>
    intro i d e
    cases i with
    | zero => simp at e
    | succ i => exact ih (i := i) (by simpa using e)
  | obj h1 h2 h3 _ ih =>
    intro i d e
    cases i with
    | zero => simp at e; subst e; exact ⟨_, _, rfl, List.mem_cons_self .., h1, h2⟩
    | succ i =>
      obtain ⟨a, xs, q1, q2, q3⟩ := ih (i := i) (by simpa using e)
      exact ⟨a, xs, by simpa using q1, List.mem_cons_of_mem _ q2, q3⟩
  | urn _ _ _ ih =>
    intro i d e
    cases i with
    | zero => simp at e
    | succ i => exact ih (i := i) (by simpa using e)
theorem RepS.set {x : Option V} {sl : Slot} {new : List Addr} (hs : ∀ {σ ρ as}, RepS K G H U σ ρ as → (∀ a ∈ new, a ∉ as) → RepS K G H U (x :: σ) (sl :: ρ) (new ++ as)) (r : RepS K G H U σ ρ as) :
    ∀ (i : Nat), (∀ a ∈ new, a ∉ as) → ∃ as', RepS K G H U (σ.set i x) (ρ.set i sl) as' ∧ ∀ a, a ∈ as' → a ∈ new ∨ a ∈ as := by
  induction r with
  | nil => intro i _; exact ⟨[], .nil, fun _ h => nomatch h⟩
  | @un y σ ρ as t ih =>
    intro i hn
    cases i with
    | zero => exact ⟨_, hs t hn, fun a h => List.mem_append.mp h⟩
    | succ i =>
      obtain ⟨as', q1, q2⟩ := ih i hn
      exact ⟨as', .un q1, q2⟩
  | @d v d σ ρ as h t ih =>
    intro i hn
    cases i with
    | zero => exact ⟨_, hs t hn, fun a h => List.mem_append.mp h⟩
    | succ i =>
      obtain ⟨as', q1, q2⟩ := ih i hn
      exact ⟨as', .d h q1, q2⟩
  | @obj b xs ds σ ρ as h1 h2 h3 t ih =>
    intro i hn
    have hn' : ∀ a ∈ new, a ∉ as := fun a ha z => hn a ha (List.mem_cons_of_mem _ z)
    cases i with
    | zero => exact ⟨_, hs t hn', fun a h => (List.mem_append.mp h).imp id (List.mem_cons_of_mem _)⟩
    | succ i =>
      obtain ⟨as', q1, q2⟩ := ih i hn'
      refine ⟨b :: as', .obj h1 h2 (fun z => ?_) q1, fun a h => ?_⟩
      · rcases q2 b z with z | z
        · exact hn b z (List.mem_cons_self ..)
        · exact h3 z
      · rcases List.mem_cons.mp h with h | h
        · subst h; exact .inr (List.mem_cons_self ..)
        · exact (q2 a h).imp id (List.mem_cons_of_mem _)
  | @urn b n σ ρ as h1 h2 t ih =>
    intro i hn
    cases i with
    | zero => exact ⟨_, hs t hn, fun a h => List.mem_append.mp h⟩
    | succ i =>
      obtain ⟨as', q1, q2⟩ := ih i hn
      exact ⟨as', .urn h1 h2 q1, q2⟩
end
end DL
namespace DL
open PySem PySem.Spec PyProof.Rows L2
section
variable {K : PySem.W.Frag} {C : Fx} {as : List Addr} {H H' H1 H2 : Hp} {σ : List (Option V)} {ρ ρ' ρ1 ρ2 : Env}
theorem RepS.at {G : Hp} {U : List Addr} (r : RepS K G H U σ ρ as) : ∀ a ∈ as, ∃ o, H a = some o := by
  induction r with
  | nil => intro a h; cases h
  | un _ ih => exact ih
  | d _ _ ih => exact ih
  | obj h1 _ _ _ ih =>
    intro a h
    rcases List.mem_cons.mp h with rfl | h
    · exact ⟨_, h1⟩
    · exact ih a h
  | urn _ _ _ ih => exact ih
theorem Rep.same (r : Rep K C as H σ ρ) (e : Same H H') : Rep K C as H' σ ρ where
  rep := r.rep.mono (hide_mono e) (fun a ha => by
    obtain ⟨xs, q⟩ := r.rep.at a ha
    rw [q, e a _ q]) fun u n _ hu => by
      obtain ⟨b, s, k, q, z⟩ := hu
      exact ⟨b, s, k, e u _ q, z⟩
  ent := r.ent.trans fun b o _ q => e b o q
  own := r.own
  hid := r.hid
  unn := fun u hu => ⟨(r.unn u hu).1, (Keep.of (l := []) e).all u (r.unn u hu).2⟩
abbrev WD := Env → (PyData → Env → Prop) → Prop
abbrev WT := Env → (Bool → Env → Prop) → Prop
abbrev WA := Env → (List PyData → Env → Prop) → Prop
def tDT (K : PySem.W.Frag) (C : Fx) (w : WT) : TT := fun σ H Q => ∃ as ρ k, Rep K C as H σ ρ ∧ w ρ k ∧
  ∀ b ρ' H', k b ρ' → Rep K C as H' σ ρ' → Keep (as ++ C.N) H H' → Q b H'
end
variable {X : Cx} {C : Fx}
def PDT (X : Cx) (C : Fx) (e : Expr) (w : WT) : Prop := PT X e (tDT X.K C w)
theorem pe_imp {e : Expr} {t t' : TE} (h : PE X e t) (i : ∀ σ H Q, t' σ H Q → t σ H Q) : PE X e t' := ⟨fun pins s σ H Q I q => h.run pins s σ H Q I (i σ H Q q)⟩
theorem pt_imp {e : Expr} {t t' : TT} (h : PT X e t) (i : ∀ σ H Q, t' σ H Q → t σ H Q) : PT X e t' := ⟨fun pins s σ H Q I q => h.run pins s σ H Q I (i σ H Q q)⟩
theorem pa_imp {e : List Expr} {t t' : TA} (h : PA X e t) (i : ∀ σ H Q, t' σ H Q → t σ H Q) : PA X e t' := ⟨fun pos pins s σ H Q I q => h.run pos pins s σ H Q I (i σ H Q q)⟩
theorem not_hid {K : PySem.W.Frag} {as : List Addr} {H : Hp} {σ : List (Option V)} {ρ : Env} {p : Addr} (r : Rep K C as H σ ρ) (h : H p = none) : p ∉ as ++ C.N := fun z => by
  rcases List.mem_append.mp z with z | z
  · obtain ⟨xs, q⟩ := r.rep.at p z
    rw [q] at h; cases h
  · by_cases c : p ∈ C.U
    · exact (r.unn p c).2 h
    · cases q : C.He p with
      | none => exact r.hid p z q
      | some o =>
        have := r.ent p o c q
        rw [h] at this; cases this
end DL
namespace DL
open PySem PySem.Spec PyProof.Rows L2
section
variable {K : PySem.W.Frag} {H : Hp} {v : V}
theorem seqT_un {l : List Addr} {a : Addr} {xs : List V} (h : SqT K (hide H l) a xs) : SqT K H a xs := seqT (hide_same H l) h
end
variable {X : Cx} {C : Fx}
def rCatL (K : PySem.W.Frag) : R2 := fun x y H Q => ∃ l b xs zs, x = .ref l ∧ y = .ref b ∧ SqL K H l xs ∧ SqL K H b zs ∧ xs.length + zs.length ≤ sizeLine ∧ ∀ p, H p = none → Q (.ref p) (upd H p (.lst (xs ++ zs)))
theorem op_catL : OpR X (binaryOp .Add) (rCatL X.K) := by
  intro pins s σ H x y v u Q I rx ry h
  obtain ⟨l, b, xs, zs, rfl, rfl, h1, h2, hz, q⟩ := h
  cases rx
  cases ry
  obtain ⟨is1, r1, ⟨⟨c1, d1, t1, s1⟩, n1, ho1, hc1, _, hd1⟩, _⟩ := I.list h1
  obtain ⟨is2, r2, ⟨⟨c2, d2, t2, s2⟩, n2, ho2, hc2, _, hd2⟩, _⟩ := I.list h2
  dsimp only at hc1 hd1 hc2 hd2
  subst hc1 hd1 hc2 hd2
  have k1 := r1.length
  have k2 := r2.length
  have ea : is1.toArray ++ is2.toArray = (is1 ++ is2).toArray := by simp
  refine concat_meets ⟨_, ho1, rfl⟩ ⟨_, ho2, rfl⟩ noFill_list_add seq_list_add PySem.F.slot_list_add PySem.F.entry_list_add (PySem.F.args_list_add_2 _ _)
    (list_addW l b is1.toArray is2.toArray n1 n2 d1 d2 s1 s2 (by rw [List.size_toArray, List.size_toArray]; omega)) ⟨ho1, ho2, ?_⟩
  rw [ea]
  exact ⟨.ref _, _, I.lnew (t' := s.toks) (r1.append r2) (by rw [List.length_append]; omega), rfl, q _ I.fresh⟩
section
variable {a b : Expr} {pos : Pos} {wa wb : WD}
end
def PDW (X : Cx) (C : Fx) (e : Expr) (w : WT) : Prop := PW X e (tDT X.K C w)
theorem pw_imp {e : Expr} {t t' : TT} (h : PW X e t) (i : ∀ σ H Q, t' σ H Q → t σ H Q) : PW X e t' := ⟨fun wh pins s σ H Q I q => h.run wh pins s σ H Q I (i σ H Q q)⟩
theorem PDW.pt {e : Expr} {w : WT} (h : PDW X C e w) : PDT X C e w := PW.pt h
section
variable {a b : Expr} {rest : List Expr} {pos : Pos} {w w' : WT}
end
end DL
namespace DL
open PySem PySem.Spec PyProof.Rows L2
variable {X : Cx} {C : Fx}
def seqOf : PyData → Option (List PyData)
  | .tuple ds => some ds
  | .list ds => some ds
  | _ => none
theorem po_imp {e : Option Expr} {t t' : TO} (h : PO X e t) (i : ∀ σ H Q, t' σ H Q → t σ H Q) : PO X e t' := ⟨fun pins s σ H Q I q => h.run pins s σ H Q I (i σ H Q q)⟩
theorem sl_D : SlR X (fun x lo hi H Q => rSlA X.K x lo hi H Q ∨ rSlL X.K x lo hi H Q) := SlR.or sl_tupA sl_list
section
variable {x : Str} {p pos : Pos} {e : Expr} {es : List Expr} {ws : WA}
end
def fTuple : List PyData → (PyData → Prop) → Prop := fun ds k => ∃ d xs, ds = [d] ∧ seqOf d = some xs ∧ k (.tuple xs)
theorem mem_ne {K : PySem.W.Frag} {as : List Addr} {H : Hp} {σ : List (Option V)} {ρ : Env} (r : Rep K C as H σ ρ) : ∀ a ∈ as ++ C.N, H a ≠ none := fun a h z => not_hid r z h
end DL
namespace DL
open PySem PySem.Spec PyProof.Rows L2
structure DEnds where
  nx : Env → Prop
  rt : PyData → Env → Prop
  bk : Env → Prop := fun _ => False
  ct : Env → Prop := fun _ => False
abbrev WS := DEnds → Env → Prop
structure Step (C : Fx) (as : List Addr) (H : Hp) (as' : List Addr) (H' : Hp) : Prop where
  kp : ∀ a o, a ∉ as ++ C.N → H a = some o → H' a = some o
  su : ∀ a ∈ as', a ∈ as ∨ H a = none
  al : ∀ a, H a ≠ none → H' a ≠ none
section
variable {K : PySem.W.Frag} {C : Fx} {as as' as1 as2 : List Addr} {H H' H1 H2 : Hp} {σ : List (Option V)} {ρ : Env}
theorem Step.refl : Step C as H as H := ⟨fun _ _ _ h => h, fun _ h => .inl h, fun _ h => h⟩
theorem Step.trans (a : Step C as H as1 H1) (b : Step C as1 H1 as2 H2) : Step C as H as2 H2 where
  kp := fun x o hx h => b.kp x o (fun z => by
    rcases List.mem_append.mp z with z | z
    · rcases a.su x z with q | q
      · exact hx (List.mem_append_left _ q)
      · rw [q] at h; cases h
    · exact hx (List.mem_append_right _ z)) (a.kp x o hx h)
  su := fun x hx => by
    rcases b.su x hx with q | q
    · exact a.su x q
    · refine .inr ?_
      cases e : H x with
      | none => rfl
      | some o => exact absurd q (a.al x (by rw [e]; exact fun z => by cases z))
  al := fun x h => b.al x (a.al x h)
theorem Keep.step (k : Keep (as ++ C.N) H H') : Step C as H as H' where
  kp := fun a o ha h => (hide_some (k.see a o (by rw [hide_out ha]; exact h))).2
  su := fun _ h => .inl h
  al := k.all
theorem Step.sub (h : ∀ a ∈ as', a ∈ as) : Step C as H as' H := ⟨fun _ _ _ h => h, fun a z => .inl (h a z), fun _ h => h⟩
theorem Step.see (s : Step C as H as' H') : Same (hide H (as ++ C.N)) (hide H' (as' ++ C.N)) := fun b o h => by
  obtain ⟨c, h⟩ := hide_some h
  rw [hide_out]
  · exact s.kp b o c h
  · intro z
    rcases List.mem_append.mp z with z | z
    · rcases s.su b z with q | q
      · exact c (List.mem_append_left _ q)
      · rw [q] at h; cases h
    · exact c (List.mem_append_right _ z)
theorem RepS.free {G : Hp} {U : List Addr} (r : RepS K G H U σ ρ as) : ∀ {i : Nat} {ds : OD} {b : Addr}, ρ[i]? = some (.obj ds) → σ[i]? = some (some (.ref b)) → ∃ as', RepS K G H U σ (ρ.set i .un) as' ∧ b ∉ as' ∧ ∀ a ∈ as', a ∈ as := by
  induction r with
  | nil => intro i ds b e; simp at e
  | @un y σ ρ as t ih =>
    intro i ds b e1 e2
    cases i with
    | zero => simp at e1
    | succ i =>
      obtain ⟨as', q1, q2, q3⟩ := ih (i := i) (b := b) (by simpa using e1) (by simpa using e2)
      exact ⟨as', .un q1, q2, q3⟩
  | @d v d σ ρ as h t ih =>
    intro i ds b e1 e2
    cases i with
    | zero => simp at e1
    | succ i =>
      obtain ⟨as', q1, q2, q3⟩ := ih (i := i) (b := b) (by simpa using e1) (by simpa using e2)
      exact ⟨as', .d h q1, q2, q3⟩
  | @obj c xs ds' σ ρ as h1 h2 h3 t ih =>
    intro i ds b e1 e2
    cases i with
    | zero =>
      simp at e2
      subst e2
      exact ⟨as, .un t, h3, fun a z => List.mem_cons_of_mem _ z⟩
    | succ i =>
      obtain ⟨as', q1, q2, q3⟩ := ih (i := i) (b := b) (by simpa using e1) (by simpa using e2)
      obtain ⟨b', zs, p1, p2, _⟩ := t.getObj (i := i) (o := ds) (by simpa using e1)
      have e2' : σ[i]? = some (some (V.ref b)) := by simpa using e2
      rw [p1] at e2'
      cases e2'
      refine ⟨c :: as', .obj h1 h2 (fun z => h3 (q3 c z)) q1, fun z => ?_, fun a z => ?_⟩
      · rcases List.mem_cons.mp z with z | z
        · subst z; exact h3 p2
        · exact q2 z
      · rcases List.mem_cons.mp z with z | z
        · subst z; exact List.mem_cons_self ..
        · exact List.mem_cons_of_mem _ (q3 a z)
  | @urn c n σ ρ as h1 h2 t ih =>
    intro i ds b e1 e2
    cases i with
    | zero => simp at e1
    | succ i =>
      obtain ⟨as', q1, q2, q3⟩ := ih (i := i) (b := b) (by simpa using e1) (by simpa using e2)
      exact ⟨as', .urn h1 h2 q1, q2, q3⟩
end
def tDS (K : PySem.W.Frag) (C : Fx) (w : WS) : TS := fun D σ H => ∃ as ρ P, Rep K C as H σ ρ ∧ w P ρ ∧
  (∀ as' ρ' σ' H', P.nx ρ' → Rep K C as' H' σ' ρ' → Step C as H as' H' → D.nx σ' H') ∧
  (∀ d ρ' v as' σ' H', P.rt d ρ' → Rep K C as' H' σ' ρ' → Step C as H as' H' → Dq K (hide H' (as' ++ C.N)) v d → D.rt v H') ∧
  (∀ as' ρ' σ' H', P.bk ρ' → Rep K C as' H' σ' ρ' → Step C as H as' H' → D.bk σ' H') ∧
  (∀ as' ρ' σ' H', P.ct ρ' → Rep K C as' H' σ' ρ' → Step C as H as' H' → D.ct σ' H')
variable {X : Cx} {C : Fx}
def PDSs (X : Cx) (C : Fx) (st : List Stmt) (w : WS) : Prop := PSs X st (tDS X.K C w)
theorem ps_imp {st : Stmt} {t t' : TS} (h : PS X st t) (i : ∀ D σ H, t' D σ H → t D σ H) : PS X st t' := ⟨fun pins s σ H D I q => h.run pins s σ H D I (i D σ H q)⟩
theorem pss_imp {st : List Stmt} {t t' : TS} (h : PSs X st t) (i : ∀ D σ H, t' D σ H → t D σ H) : PSs X st t' := ⟨fun pins s σ H D I q => h.run pins s σ H D I (i D σ H q)⟩
section
variable {st : Stmt} {rest a b : List Stmt} {w w' w1 w2 : WS} {we : WD} {wt : WT} {e c : Expr} {pos : Pos}
end
end DL
namespace DL
open PySem PySem.Spec PyProof.Rows L2
def Its (K : PySem.W.Frag) (l0 : List Addr) (H0 : Hp) (ds : List PyData) (J : It) : Prop :=
  ∃ (G : Hp → Prop) (Y : Nat → Hp → V → Hp → Prop), Walk J ds.length G Y ∧ (∀ l H, Same (hide H0 l0) (hide H l) → G H) ∧
    ∀ (j : Nat) (x : V) (l : List Addr) (H H' : Hp), j < ds.length → Same (hide H0 l0) (hide H l) → (∀ a, H a = none → a ∉ l) → Y j H x H' → Same H H' ∧ ∃ d, ds[j]? = some d ∧ Dq K (hide H' l) x d
abbrev WI := Env → (List PyData → Env → Prop) → Prop
theorem pi_imp {X : Cx} {tg iter : Expr} {t t' : TI} (h : PI X tg iter t) (i : ∀ σ H R, t' σ H R → t σ H R) : PI X tg iter t' := ⟨fun pins s σ H R I q => h.run pins s σ H R I (i σ H R q)⟩
variable {X : Cx} {C : Fx}
section
variable {K : PySem.W.Frag} {l0 : List Addr} {H0 : Hp} {a b : Addr} {xs ys : List V} {ds es : List PyData}
theorem its_tup (h : SqT K (hide H0 l0) a xs) (t : DqAll K (hide H0 l0) xs ds) : Its K l0 H0 ds (Itt K a) := by
  refine ⟨_, _, by rw [← dps_len t]; exact walk_tup (K := K) (a := a) (xs := xs), fun l H s => seqT_un (seqT s h), fun j x l H H' hj s _ y => ?_⟩
  obtain ⟨e, q⟩ := y
  subst e
  obtain ⟨d, h1, h2⟩ := dps_get' t q
  exact ⟨Same.refl _, d, h1, dp_mono s h2⟩
theorem dq_pair {l : List Addr} {H : Hp} {T : Addr} {x y : V} {d e : PyData} (hT : H T = none) (ht : T ∉ l) (h1 : Dq K (hide H l) x d) (h2 : Dq K (hide H l) y e) : Dq K (hide (upd H T (.tup [x, y])) l) (.ref T) (.tuple [d, e]) :=
  .tup (SqT.of (by rw [hide_out ht]; exact upd_same)) (.cons (dp_mono (hide_mono (same_new hT _)) h1) (.cons (dp_mono (hide_mono (same_new hT _)) h2) .nil))
def zipD (ds es : List PyData) : List PyData := List.zipWith (fun d e => .tuple [d, e]) ds es
theorem its_zipT (h1 : SqT K (hide H0 l0) a xs) (t1 : DqAll K (hide H0 l0) xs ds) (h2 : SqT K (hide H0 l0) b ys) (t2 : DqAll K (hide H0 l0) ys es) : Its K l0 H0 (zipD ds es) (RZ.ItzT K a b) := by
  have hl : (zipD ds es).length = min xs.length ys.length := by rw [zipD, List.length_zipWith, dps_len t1, dps_len t2]
  refine ⟨fun H => SqT K H a xs ∧ SqT K H b ys, YPair (fun i => xs[i]?) (fun i => ys[i]?), ⟨?_, ?_, ?_⟩, fun l H s => ⟨seqT_un (seqT s h1), seqT_un (seqT s h2)⟩, fun j x l H H' hj s hn y => ?_⟩
  · intro i H hi ⟨p, q⟩
    rw [hl] at hi
    have i1 : i < xs.length := by omega
    have i2 : i < ys.length := by omega
    exact ⟨xs, ys, _, _, p, q, List.getElem?_eq_getElem i1, List.getElem?_eq_getElem i2⟩
  · intro H ⟨p, q⟩
    refine ⟨xs, ys, p, q, ?_⟩
    rw [hl]
    omega
  · intro i H x H' hi ⟨p, q⟩ y
    obtain ⟨T, u, v, e1, e2, e3, f1, f2⟩ := y
    exact ⟨T, u, v, e1, e2, e3, f1 xs p, f2 ys q⟩
  · obtain ⟨T, u, v, rfl, hT, rfl, q1, q2⟩ := y
    obtain ⟨d, g1, g2⟩ := dps_get' t1 q1
    obtain ⟨e, g3, g4⟩ := dps_get' t2 q2
    exact ⟨same_new hT _, .tuple [d, e], by simp [zipD, List.getElem?_zipWith, g1, g3], dq_pair hT (hn T hT) (dp_mono s g2) (dp_mono s g4)⟩
end
section
variable {tg e : Expr} {we : WD} {p pos tpos : Pos} {kk : Nat} {elts : List Expr}
end
theorem wipe_at (σ : L2.St) : ∀ (us : List Nat) (j : Nat), (wipe σ us)[j]? = if j ∈ us ∧ j < σ.length then some none else σ[j]?
  | [], j => by simp [wipe]
  | v :: us, j => by
    unfold wipe
    rw [List.getElem?_set, wipe_at σ us j, wipe_length]
    by_cases c : v = j
    · subst c
      by_cases l : v < σ.length
      · simp [l]
      · simp [l]
    · have c' : j ≠ v := fun z => c z.symm
      simp [c, c']
theorem wipe_wipe {σ : L2.St} {us : List Nat} : wipe (wipe σ us) us = wipe σ us := by
  refine List.ext_getElem? fun j => ?_
  rw [wipe_at, wipe_at, wipe_length]
  by_cases c : j ∈ us ∧ j < σ.length
  · simp [c]
  · simp [c]
abbrev WG := PyData → Env → (Env → Prop) → Prop
theorem pg_imp {tg : Expr} {t t' : TG} (h : PG X tg t) (i : ∀ v σ H Q, t' v σ H Q → t v σ H Q) : PG X tg t' := ⟨fun pins s σ H v u Q I r q => h.run pins s σ H v u Q I r (i v σ H Q q)⟩
theorem pgs_imp {tgs : List Expr} {t t' : TGs} (h : PGs X tgs t) (i : ∀ v σ H Q, t' v σ H Q → t v σ H Q) : PGs X tgs t' := ⟨fun pins s σ H v u Q I r q => h.run pins s σ H v u Q I r (i v σ H Q q)⟩
theorem Rep.free {K : PySem.W.Frag} {as : List Addr} {H : Hp} {σ : List (Option V)} {ρ : Env} (r : Rep K C as H σ ρ) : ∀ a, H a = none → a ∉ as ++ C.N := fun a h => not_hid r h
end DL
namespace DL
open PySem PySem.Spec PyProof.Rows L2
variable {X : Cx} {C : Fx}
section
variable {K : PySem.W.Frag} {G H : Hp} {U as : List Addr} {σ : List (Option V)} {ρ : Env}
theorem RepS.any (r : RepS K G H U σ ρ as) (x : Option V) : ∀ {i : Nat}, ρ[i]? = some .un → RepS K G H U (σ.set i x) ρ as := by
  induction r with
  | nil => intro i e; simp at e
  | un t ih =>
    intro i e
    cases i with
    | zero => exact .un t
    | succ i => exact .un (ih (by simpa using e))
  | d h t ih =>
    intro i e
    cases i with
    | zero => simp at e
    | succ i => exact .d h (ih (by simpa using e))
  | obj h1 h2 h3 t ih =>
    intro i e
    cases i with
    | zero => simp at e
    | succ i => exact .obj h1 h2 h3 (ih (by simpa using e))
  | urn h1 h2 t ih =>
    intro i e
    cases i with
    | zero => simp at e
    | succ i => exact .urn h1 h2 (ih (by simpa using e))
end
section
variable {elt tg iter : Expr} {ifs : List Expr} {scope : Scope} {own : List (Str × Nat)} {pos : Pos} {wi : WI} {wg : WG} {wt : WT} {we : WD} {gs : List Nat}
theorem pts_imp {Y : Cx} {t t' : TT} (h : PTs Y ifs t) (i : ∀ σ H Q, t' σ H Q → t σ H Q) : PTs Y ifs t' := ⟨fun pins s σ H Q I q => h.run pins s σ H Q I (i σ H Q q)⟩
end
end DL
set_option maxHeartbeats 4000000
namespace PySem
open AutoSeq1
theorem extend_by_tuple (l : Addr) (items : Array Value) (n : Nat) (b : Addr) (dct : Option Addr) (slo : Array (Option Value)) (more : Array Value) (n2 : Nat) (h0 : ¬(!items.isEmpty && Builtin.List.listTooLong (items.size + more.size)) = true) (h1 : items.size ≤ sizeLine) (h2 : items.size + more.size ≤ sizeLine + 1) :
    Meets (Builtin.«list.extend» ⟨[.ref l, .ref b], []⟩) (fun _ R s => s.heap.get? l = some { cls := .type "list", dict := none, data := .seq items n, slots := #[] } ∧
      s.heap.get? b = some { cls := .type "tuple", dict := dct, data := .seq more n2, slots := slo } ∧ R (.ok (.ret Value.none)) { s with heap := s.heap.update l (Obj.mapSeq fun x => x ++ more), toks := s.toks }) :=
  .of_wp fun prog w A R s h => by
    obtain ⟨hp, g, d, tk, os⟩ := s
    obtain ⟨hl, hb, h⟩ := h
    have f1 := idx_int
    have f2 := sub_tuple_tuple
    have f3 := sub_list_list
    have f4 := sub_tuple_list
    have f5 := sub_list_tuple
    have hz' : (items ++ more).size ≤ sizeLine + 1 := by rw [Array.size_append]; exact h2
    wp_walk using (wpAny_updateSeq hl rfl (hz := h1) (_hz' := hz')), wpAny_loadPart' hl, wpAny_loadPart' hb
    exact ⟨_, rfl, h⟩
end PySem
namespace DL
open PySem PySem.Spec PyProof.Rows L2
variable {X : Cx} {C : Fx}
def rExtT (K : PySem.W.Frag) : V → List V → Hp → VK → Prop := fun x vs H Q => ∃ l b xs zs, x = .ref l ∧ vs = [.ref b] ∧ H l = some (.lst xs) ∧ SqT K H b zs ∧ xs.length + zs.length ≤ sizeLine ∧ Q .non (upd H l (.lst (xs ++ zs)))
theorem mt_extT : MtM X "list.extend" (rExtT X.K) := by
  intro pins s σ H x vs v us Q I rx rv h
  obtain ⟨l, b, xs, zs, rfl, rfl, hH, hB, hz, q⟩ := h
  cases rx
  obtain ⟨u, rfl, ru⟩ := rv.one
  cases ru
  obtain ⟨z, its, n, r, hl, e⟩ := I.lstM hH
  obtain ⟨its2, r2, ⟨⟨cl, dct, dat, slo⟩, ho, hc, n2, hd⟩, _⟩ := I.tuple hB
  dsimp only at hc hd
  subst hc
  subst hd
  have l1 := r.length
  have l2 := r2.length
  have hsz : its.toArray.size + its2.toArray.size ≤ sizeLine := by rw [List.size_toArray, List.size_toArray]; omega
  have hlong : ¬ (!its.toArray.isEmpty && Builtin.List.listTooLong (its.toArray.size + its2.toArray.size)) = true := by
    rw [notLongL hsz, Bool.and_false]
    exact Bool.false_ne_true
  refine call_meets F.slot_list_extend ⟨_, e, rfl⟩ F.entry_list_extend (F.args_list_extend_2 _ _) (extend_by_tuple l its.toArray n b dct slo its2.toArray n2 hlong (by rw [List.size_toArray]; omega) (by omega)) ⟨e, ho, ?_⟩
  refine ⟨.non, _, I.lset (its' := its ++ its2) hH e (by simp) (r.append r2) ?_, rfl, q⟩
  rw [List.length_append]
  omega
section
variable {i : Nat} {x : Str} {px apos cpos pos : Pos} {e : Expr} {we : WD}
end
section
variable {K : PySem.W.Frag} {G H : Hp} {U : List Addr}
end
end DL
namespace DL
open PySem PySem.Spec PyProof.Rows L2
variable {X : Cx} {C : Fx}
section
variable {a b : Expr} {rest : List Expr} {pos : Pos} {wa wb : WD}
end
section
variable {e : Expr} {we : WD} {x : Str} {p p2 p3 pos : Pos}
theorem kit_any2 {K : PySem.W.Frag} {t u u' : Value} {b b' : Bool} (h : PySem.W.kitOne K t u = some b) (h' : PySem.W.kitOne K t u' = some b') : PySem.W.kitAny K t [u, u'] = some (b || b') := by
  cases b <;> cases b' <;> simp [PySem.W.kitAny, h, h']
end
end DL
namespace DL
open PySem PySem.Spec PyProof.Rows L2
structure Df (P : Program) (w : World) (K : PySem.W.Frag) (mg : Str → Option Value) (base : Heap) (x : Str) (ps : List Str) (k : Nat) (sp : Sp) : Prop where
  ex : ∃ f fd, FnOk P w K mg base CX0 k f fd ps sp ∧ mg x = some (.ref f) ∧ PySem.W.keepIn K (.ref f) = true ∧ Binds K fd ps []
theorem Df.imp {P : Program} {w : World} {K : PySem.W.Frag} {mg : Str → Option Value} {base : Heap} {x : Str} {ps : List Str} {k : Nat} {sp sp' : Sp} (D : Df P w K mg base x ps k sp) (h : ∀ vs H Q E, sp' vs H Q E → sp vs H Q E) : Df P w K mg base x ps k sp' := by
  obtain ⟨f, fd, h1, h2, h3, h4⟩ := D.ex
  exact ⟨f, fd, h1.imp h, h2, h3, h4⟩
variable {X : Cx} {C : Fx}
section
variable {p pos : Pos} {e : Expr} {ws : WA}
end
end DL
namespace DL
open PySem PySem.Spec PyProof.Rows L2
variable {X : Cx} {C : Fx}
mutual
def sz : PyData → Nat
  | .list xs => 1 + szs xs
  | .tuple xs => 1 + szs xs
  | _ => 1
def szs : List PyData → Nat
  | [] => 0
  | x :: xs => sz x + szs xs
end
end DL
namespace DL
open PySem PySem.Spec PyProof.Rows L2
section
variable {K : PySem.W.Frag} {C : Fx} {as : List Addr} {H H2 : Hp} {σ : List (Option V)} {ρ ρ2 : Env} {p : Addr} {xs : List V} {ds : List PyData}
end
variable {X : Cx} {C : Fx}
end DL
namespace DL
open PySem PySem.Spec PyProof.Rows L2
variable {X : Cx} {C : Fx}
section
variable {K : PySem.W.Frag} {as : List Addr} {H : Hp} {σ : List (Option V)} {ρ : Env}
end
end DL
namespace DL
open PySem PySem.Spec PyProof.Rows L2
variable {X : Cx} {C : Fx}
theorem mod_lt {v low : Int} (h : 0 < low) : 0 ≤ v % low ∧ v % low < low := ⟨Int.emod_nonneg _ (by omega), Int.emod_lt_of_pos _ h⟩
end DL
namespace DL
open PySem PySem.Spec PyProof.Rows L2
section
variable {κ : Type} [DecidableEq κ]
variable {K : PySem.W.Frag} {G : Hp}
end
end DL
namespace DL
open PySem PySem.Spec PyProof.Rows L2
variable {X : Cx} {C : Fx}
end DL
namespace DL
open PySem PySem.Spec PyProof.Rows L2
theorem meets_enum1 {v : Value} {o : Obj} {Hh : Heap → Prop} (B : Begins v o Hh) : Meets (Builtin.«enumerate.__new__» ⟨[.type "enumerate", v], []⟩) (fun _ R s => Hh s.heap ∧
    R (.ok (.ret (.ref (s.heap.push o).objs.size))) { s with heap := (s.heap.push o).push { cls := .type "enumerate", data := .fields #[.none, .bool false, .ref s.heap.objs.size, rawInt 0, .none, .none] } }) :=
  .of_wp fun prog w A R s ⟨hh, h⟩ => by
    obtain ⟨hp, g, d, tk, os⟩ := s
    have hsub := sub_enumerate
    have it1 : ∀ {A' : Around} {E Q : Value → Shared → Prop}, Q (.ref hp.objs.size) ⟨hp.push o, g, d, tk, os⟩ → wpAny (model prog w) A' (pyIter v) Q E ⟨hp, g, d, tk, os⟩ :=
      fun q => B.iter prog w _ _ ⟨hp, g, d, tk, os⟩ _ hh q
    wp_walk using it1
    refine wpAny_stack_any fun st => wpAny_pure ?_
    split
    · rename_i c _ _ _ _ _
      cases (c == Value.type "enumerate") <;> (wp_walk using it1; exact ⟨_, rfl, h⟩)
    · wp_walk using it1
      exact ⟨_, rfl, h⟩
theorem call_enum1 {prog : Program} {w : World} {A : Around} {E : Value → Shared → Prop} {s : Shared} {v : Value} {o : Obj} {Hh : Heap → Prop} {Q : Value → Shared → Prop} (B : Begins v o Hh) (hh : Hh s.heap)
    (h : ∀ h', IsEnum h' (s.heap.objs.size + 1) s.heap.objs.size ((0 : Nat) : Int) .none → h'.get? s.heap.objs.size = some o → (∀ b u, s.heap.get? b = some u → h'.get? b = some u) → Q (.ref (s.heap.objs.size + 1)) { s with heap := h' }) :
    wpAny (model prog w) A (call (.type "enumerate") [v]) Q E s := by
  have hz : (s.heap.push o).objs.size = s.heap.objs.size + 1 := Heap.size_push ..
  refine callType_new F.called_enumerate (by decide) (F.typeCall_enumerate_1 _) (F.newCall_enumerate_1 _) (fun obj => F.args_object_init_2 obj _) F.entry_enumerate_new (meets_enum1 B) ⟨hh, ?_⟩
  show _ ∧ _
  rw [hz]
  have he : IsEnum ((s.heap.push o).push { cls := .type "enumerate", data := .fields #[.none, .bool false, .ref s.heap.objs.size, rawInt 0, .none, .none] }) (s.heap.objs.size + 1) s.heap.objs.size ((0 : Nat) : Int) .none := by
    have q := Heap.get?_push_size (s.heap.push o) (o := { cls := .type "enumerate", data := .fields #[.none, .bool false, .ref s.heap.objs.size, rawInt 0, .none, .none] }) rfl
    rw [hz] at q
    exact q
  exact ⟨⟨_, he, rfl⟩, h _ he (Heap.get?_push_of_some _ (Heap.get?_push_size _ B.free)) fun b u x => Heap.get?_push_of_some _ (Heap.get?_push_of_some _ x)⟩
def IteT (K : PySem.W.Frag) (a : Addr) : It :=
  ⟨fun i H => ∃ (xs : List V) (x : V), SqT K H a xs ∧ xs[i]? = some x, fun i H v H' => ∃ T x, v = .ref T ∧ H T = none ∧ H' = upd H T (.tup [.int (i : Nat), x]) ∧ ∀ xs, SqT K H a xs → xs[i]? = some x, fun i H => ∃ xs : List V, SqT K H a xs ∧ xs.length = i⟩
theorem turn_enumT {P : Program} {w : World} {K : PySem.W.Frag} {elts : List Expr} {kk : Nat} {tpos : Pos} {a e it : Addr} (ai : a ≠ it) (ae : e ≠ a) (ei : e ≠ it) :
    Turn P w K (.Tuple elts kk tpos) (IteT K a) [e, it] e (fun i h => (∃ old, IsEnum h e it ((i : Nat) : Int) old) ∧ h.IsTupleIter it a i) where
  mem := List.mem_cons_self ..
  obj := fun i h ⟨⟨old, he⟩, o, ho, _, hd⟩ b hb => by
    rcases List.mem_cons.mp hb with z | z
    · rw [z]; exact ⟨_, he, fun v q => nomatch q⟩
    · rw [List.mem_singleton.mp z]; exact ⟨o, ho, fun v q => by rw [hd] at q; cases q⟩
  keep := fun i h h' ⟨⟨old, he⟩, hi⟩ k => ⟨⟨old, k e (List.mem_cons_self ..) _ he⟩, hi.at fun o q => k it (List.mem_cons_of_mem _ (List.mem_singleton.mpr rfl)) o q⟩
  item := by
    rintro X rfl rfl rfl hc i pins s σ H E I hf ⟨⟨old, he⟩, hit⟩ ⟨xs, x, hq, hx⟩
    obtain ⟨its, rv, p, _⟩ := I.tuple hq
    obtain ⟨u, hu, ru⟩ := rv.get hx
    have el : e < s.heap.objs.size := Heap.lt_size he
    have il : it < s.heap.objs.size := by obtain ⟨_, q, _⟩ := hit; exact Heap.lt_size q
    have hlt : i < its.toArray.size := by
      have := (List.getElem?_eq_some_iff.mp hu).1
      simpa using this
    have Dr := Draws.tuple (prog := X.prog) (w := X.w) (A := X.A.in1) (by exact I.ok.hd hc) it a ai its.toArray
    refine wpAny_pyNext_enum_itemD Dr he ⟨hit, show s.heap.IsTuple a its.toArray from p⟩ hlt ei (fun z => ?_) fun y h' tk hy ho hst hT hsz hk => ?_
    · rcases List.mem_cons.mp z with z | z
      · exact ei z
      · exact ae (List.mem_singleton.mp z)
    have yu : y = u := by
      have hu' : its.toArray[i]? = some u := by simpa using hu
      rw [hu'] at hy
      exact (Option.some.inj hy).symm
    subst yu
    refine ⟨_, rfl, wpAny_letOwnedTupleGo_enum (s := { s with heap := h', toks := tk + 1 }) ho fun h'' he' sb => ?_⟩
    have hT2 : h''.get? s.heap.objs.size = some { cls := .type "tuple", data := .seq #[.int i tk, y] } := (sb.2 _ (Nat.ne_of_gt el)).trans hT
    have new : ObjOk X.prog X.w (upd H s.heap.objs.size (.tup [.int (i : Nat), x])) h'' s.heap.objs.size (.tup [.int (i : Nat), x]) :=
      ⟨by show 2 ≤ sizeLine; decide, [.int i tk, y], .cons ⟨_, rfl⟩ (.cons ru .nil), ⟨_, hT2, rfl, _, rfl⟩⟩
    have I1 : Inv X pins σ (upd H s.heap.objs.size (.tup [.int (i : Nat), x])) { s with heap := h'', toks := tk + 1 } :=
      I.turnedNew (t' := tk + 1) (ch := [e, it]) (fun b ob hb q => (sb.2 b (fun z => hb (by simp [z]))).trans (hk b ob (fun z => hb (by simp [z])) (fun z => hb (by simp [z])) q)) hf (Nat.le_refl _) new
    refine ⟨.ref s.heap.objs.size, _, I1, rfl, ⟨_, x, rfl, I.hok.fresh (Nat.le_refl _), rfl, fun ys hy => by rw [I.tuple_inj hy hq]; exact hx⟩, ⟨⟨y, ?_⟩, hst.1.at fun o q => (sb.2 it (Ne.symm ei)).trans q⟩, fun b hb => ?_⟩
    · have e1 : ((i + 1 : Nat) : Int) = (i : Int) + 1 := by omega
      rw [e1]; exact he'
    · have hb' : b < s.heap.objs.size := by
        rcases List.mem_cons.mp hb with z | z
        · rw [z]; exact el
        · rw [List.mem_singleton.mp z]; exact il
      rw [upd_ne (Nat.ne_of_lt hb')]
      exact (hf b hb).1
  done := by
    rintro X rfl rfl rfl hc i pins s σ H E I hf ⟨⟨old, he⟩, hit⟩ ⟨xs, hq, hx⟩
    obtain ⟨its, rv, p, _⟩ := I.tuple hq
    have hl := rv.length
    obtain ⟨f0, f1, f2, f3, f4, f5⟩ := hf it (List.mem_cons_of_mem _ (List.mem_singleton.mpr rfl))
    have hn : i = its.toArray.size := by
      rw [← hx, hl]
      simp
    subst hn
    have Dr := Draws.tuple (prog := X.prog) (w := X.w) (A := X.A.in1) (by exact I.ok.hd hc) it a ai its.toArray
    exact wpAny_pyNext_enum_endD Dr he ⟨hit, show s.heap.IsTuple a its.toArray from p⟩ fun h' eb => ⟨rfl, I.turned (t' := s.toks) (fun b o hb q => eb b o hb q) f0 f1 f3 f4 f5⟩
  self := fun A i s Q E ⟨⟨_, he⟩, _⟩ h => wpAny_pyIter_enum he h
def iEnumT (K : PySem.W.Frag) (ta : TA) : TI := fun σ H R => ta σ H fun vs H1 => ∃ a xs, vs = [.ref a] ∧ SqT K H1 a xs ∧ R (IteT K a) H1
theorem pi_enumT {X : Cx} {e : Expr} {ta : TA} {p pos tpos : Pos} {elts : List Expr} {kk : Nat} (hg : Gl X "enumerate") (hm : X.mg "enumerate" = none) (ha : PA X [e] ta) (hs : starEach [e] X.env = [(false, eval e X.env)] := by rfl) :
    PI X (.Tuple elts kk tpos) (.Call (.Name "enumerate" p) [e] [] pos) (iEnumT X.K ta) := by
  refine ⟨fun pins s σ H R I h => ?_⟩
  refine Call_ (ld_blt I hg hm boot_enumerate (PyProof.Rows.callWith_type1 (thn (ha.run pos pins s σ H _ I h) fun us s1 ⟨vs, H1, I1, r1, a, xs, ex, hq, q⟩ => ?_) hs rfl))
  subst ex
  cases r1 with
  | cons r rr =>
    cases rr
    cases r
    obtain ⟨its, rv, p', _⟩ := I1.tuple hq
    have al : a < s1.heap.objs.size := by obtain ⟨o, ho, _⟩ := id p'; exact Heap.lt_size ho
    refine call_enum1 (begins_tuple a its.toArray) (show s1.heap.IsTuple a its.toArray from p') fun h' he hit hk => wpAny_pyIter_enum he ?_
    have I2 : Inv X pins σ H1 { s1 with heap := h' } := I1.kept (t' := s1.toks) hk
    refine ⟨s1.heap.objs.size + 1, [s1.heap.objs.size + 1, s1.heap.objs.size], _, _, H1, rfl, I2, turn_enumT (a := a) (Nat.ne_of_lt al) (Ne.symm (Nat.ne_of_lt (Nat.lt_succ_of_lt al))) (Nat.succ_ne_self _), ⟨⟨.none, he⟩, _, hit, rfl, rfl⟩, fun b hb => ?_, q⟩
    have hle : s1.heap.objs.size ≤ b := by
      rcases List.mem_cons.mp hb with z | z
      · rw [z]; exact Nat.le_add_right _ _
      · rw [List.mem_singleton.mp z]; exact Nat.le_refl _
    exact I1.fpOk hle (I1.hok.fresh hle)
section
variable {X : Cx} {C : Fx} {tg e : Expr} {p p2 pos pos2 tpos : Pos} {kk : Nat} {elts : List Expr}
end
end DL
namespace DL
open PySem PySem.Spec PyProof.Rows L2
theorem pmk_own0 {X : Cx} {C : Addr} {bmB : List Value} {B newId initId : String} {x : Str} {p pos : Pos} (F : ExcBaseFacts B newId initId bmB) (q : PySem.W.excIn X.K C bmB newId = true) (gC : X.mg x = some (.ref C)) (kC : PySem.W.keepIn X.K (.ref C) = true) (r : Raises X (.ref C)) (hg : Gl X x)
    (hdb : (x == ("__debug__" : Str)) = false := by decide) : PMk X (.Call (.Name x p) [] [] pos) (fun _ H Q => Q (.ref C) none H) := by
  intro pins s σ H Q I h
  refine wpAny_Call_Name_kw (ld_glob I hg gC ?_ hdb)
  refine PySem.W.callWith_K0 I.kIn kC ?_
  show wpAny _ _ (call (.ref C) []) _ _ _
  obtain ⟨bm, N, nm, qn, bs, hdct, sn, sub, ab, col, dd, k0, k1, k2, k3, k5, mN, hC, hN, hni, T⟩ := exc_obj I.kIn q
  refine wpAny_call_exc_subT F T hC hN hni (fun h' e hm => ?_) (Nat.zero_le _)
  exact mk_of I hm r h (I.hok.gone hm.new)
abbrev RF := List PyData → (PyData → Prop) → (Value → Prop) → Prop
def spR (K : PySem.W.Frag) (rf : RF) : Sp := fun vs H Q E => ∃ N ds k ke, (∀ a ∈ N, H a ≠ none) ∧ DqAll K (hide H N) vs ds ∧ rf ds k ke ∧
  (∀ d v H', k d → Same H H' → Dq K (hide H' N) v d → Q v H') ∧ ∀ cls H', ke cls → Same H H' → E cls none H'
variable {X : Cx} {C : Fx}
structure DfR (P : Program) (w : World) (K : PySem.W.Frag) (mg : Str → Option Value) (base : Heap) (x : Str) (ps : List Str) (k : Nat) (rf : RF) : Prop where
  ex : ∃ f fd, FnOk P w K mg base (L2.CX P w) k f fd ps (spR K rf) ∧ mg x = some (.ref f) ∧ PySem.W.keepIn K (.ref f) = true ∧ Binds K fd ps []
inductive DHs (X : Cx) (C : Fx) : List ExceptHandler → List (Value × WS) → Prop
  | nil : DHs X C [] []
  | cons {x : Str} {c : Value} {w : WS} {b₀ : Stmt} {suite : List Stmt} {np pos' : Pos} {hds : List ExceptHandler} {l : List (Value × WS)} (hc : Names X x c)
      (hsu : ∀ (a : Addr) (oe : Obj) (pn : List (Addr × Obj)), PDSs (X.suite a ((a, oe) :: pn)) C (b₀ :: suite) w) (r : DHs X C hds l) : DHs X C (.ExceptHandler (some (.Name x np)) none (b₀ :: suite) pos' :: hds) ((c, w) :: l)
theorem DHs.ok {hds : List ExceptHandler} {l : List (Value × WS)} (h : DHs X C hds l) : HdsOk X hds (l.map fun q => (q.1, fun _ _ _ => tDS X.K C q.2)) := by
  induction h with
  | nil => exact .nil
  | cons hc hsu r ih => exact .cons hc (fun a oe cls d pn _ _ => hsu a oe pn) ih
end DL
namespace DL
open PySem PySem.Spec PyProof.Rows L2
variable {X : Cx} {C : Fx}
end DL
namespace DL
open PySem PySem.Spec PyProof.Rows L2
variable {X : Cx} {C : Fx}
end DL
namespace DL
open PySem PySem.Spec PyProof.Rows L2
section
variable {l : Addr} {items : Array Value} {n : Nat} {dd : Option Addr} {sl : Array (Option Value)} {x : Int} {u : Tok}
theorem mul_same (c0 : (decide (x < -(2 ^ 63)) || decide (x ≥ 2 ^ 63)) = false) (c1 : (items.isEmpty || x == 1) = true) :
    Meets (Builtin.«tuple.__mul__» ⟨[.ref l, .int x u], []⟩) (fun _ R s => s.heap.get? l = some { cls := .type "tuple", dict := dd, data := .seq items n, slots := sl } ∧ R (.ok (.ret (.ref l))) s) :=
  .of_wp fun prog w A R s ⟨hl, h⟩ => by
    obtain ⟨hp, g, d, tk, os⟩ := s
    have f1 := AutoSeq1.idx_int
    wp_walk using wpAny_loadPart' hl
    refine wpAny_ite_false (decide_eq_false (by rw [c0]; exact Bool.false_ne_true)) ?_
    wp_walk using wpAny_loadPart' hl
    exact ⟨_, rfl, h⟩
theorem mul_none (c0 : (decide (x < -(2 ^ 63)) || decide (x ≥ 2 ^ 63)) = false) (c1 : (items.isEmpty || x == 1) = false) (c2 : (decide (x ≤ 0) || items.isEmpty) = true) :
    Meets (Builtin.«tuple.__mul__» ⟨[.ref l, .int x u], []⟩) (fun _ R s => s.heap.get? l = some { cls := .type "tuple", dict := dd, data := .seq items n, slots := sl } ∧
      R (.ok (.ret (.ref s.heap.objs.size))) { s with heap := s.heap.push { cls := .type "tuple", data := .seq #[] }, toks := s.toks }) :=
  .of_wp fun prog w A R s ⟨hl, h⟩ => by
    obtain ⟨hp, g, d, tk, os⟩ := s
    have f1 := AutoSeq1.idx_int
    wp_walk using wpAny_loadPart' hl
    refine wpAny_ite_false (decide_eq_false (by rw [c0]; exact Bool.false_ne_true)) ?_
    wp_walk using wpAny_loadPart' hl
    exact ⟨_, rfl, h⟩
end
def rMulT (K : PySem.W.Frag) : R2 := fun x y H Q => ∃ l k xs, x = .ref l ∧ y = .int k ∧ SqT K H l xs ∧ -1000000 ≤ k ∧ k ≤ 1000 ∧ xs.length ≤ 1000 ∧ (xs = [] ∨ k = 1 → Q (.ref l) H) ∧
  (xs ≠ [] → k ≠ 1 → ∀ p, H p = none → Q (.ref p) (upd H p (.tup (List.replicate k.toNat xs).flatten)))
theorem op_mulT {X : Cx} : OpR X (binaryOp .Mult) (rMulT X.K) := by
  intro pins s σ H x y v u Q I rx ry h
  obtain ⟨l, k, xs, rfl, rfl, hT, h1, h2, hz, q1, q2⟩ := h
  by_cases c : xs ≠ [] ∧ 2 ≤ k
  · exact op_repT pins s σ H _ _ v u Q I rx ry ⟨l, k, xs, rfl, rfl, hT, c.1, c.2, h2, hz, q2 c.1 (by omega)⟩
  cases rx
  obtain ⟨t, rfl⟩ := ry
  obtain ⟨its, r, ⟨⟨cls, dd, data, sl⟩, ho, hc, n, hd⟩, hs⟩ := I.tuple hT
  simp only at hc hd
  subst hc hd
  have hle : its.length = xs.length := r.length.symm
  have c0 : (decide (k < -(2 ^ 63)) || decide (k ≥ 2 ^ 63)) = false := by
    rw [decide_eq_false (by omega), decide_eq_false (by omega)] <;> rfl
  have hi : its.toArray.isEmpty = xs.isEmpty := by
    cases its with
    | nil =>
      cases xs with
      | nil => rfl
      | cons a b => simp at hle
    | cons a b =>
      cases xs with
      | nil => simp at hle
      | cons a b => rfl
  by_cases e : xs = [] ∨ k = 1
  · have c1 : (its.toArray.isEmpty || k == 1) = true := by
      rw [hi]
      rcases e with e | e
      · rw [e]; rfl
      · rw [e]; simp
    refine wpAny_binaryOp_repeat_ref (T := "tuple") (U := "int") (by decide) ⟨_, ho, rfl⟩ (fun s' => typeIs_int s' k t) noFill_tuple_mul F.fills_int_mul F.slot_int_rmul repeat_tuple F.slot_int_index.lookup
      (call_meets F.slot_int_rmul (typeIs_int s k t) F.entry_int_rmul (F.args_int_rmul_2 _ _) (int_rmul_tuple k t l its.toArray n dd sl)
        ⟨ho, rfl, ⟨_, ho, rfl⟩, call_meets F.slot_tuple_mul ⟨_, ho, rfl⟩ F.entry_tuple_mul (F.args_tuple_mul_2 _ _) (mul_same c0 c1) ⟨ho, ?_⟩⟩)
    exact ⟨.ref l, H, I, rfl, q1 e⟩
  · have hne : xs ≠ [] := fun z => e (.inl z)
    have hk1 : k ≠ 1 := fun z => e (.inr z)
    have hk0 : k ≤ 0 := by
      by_cases z : 2 ≤ k
      · exact absurd ⟨hne, z⟩ c
      · omega
    have hxe : xs.isEmpty = false := by
      cases xs with
      | nil => exact absurd rfl hne
      | cons a b => rfl
    have c1 : (its.toArray.isEmpty || k == 1) = false := by
      rw [hi, hxe, Bool.false_or]
      exact beq_eq_false_iff_ne.mpr hk1
    have c2 : (decide (k ≤ 0) || its.toArray.isEmpty) = true := by rw [decide_eq_true hk0, Bool.true_or]
    refine wpAny_binaryOp_repeat_ref (T := "tuple") (U := "int") (by decide) ⟨_, ho, rfl⟩ (fun s' => typeIs_int s' k t) noFill_tuple_mul F.fills_int_mul F.slot_int_rmul repeat_tuple F.slot_int_index.lookup
      (call_meets F.slot_int_rmul (typeIs_int s k t) F.entry_int_rmul (F.args_int_rmul_2 _ _) (int_rmul_tuple k t l its.toArray n dd sl)
        ⟨ho, rfl, ⟨_, ho, rfl⟩, call_meets F.slot_tuple_mul ⟨_, ho, rfl⟩ F.entry_tuple_mul (F.args_tuple_mul_2 _ _) (mul_none c0 c1 c2) ⟨ho, ?_⟩⟩)
    have q3 := q2 hne hk1
    rw [show k.toNat = 0 by omega] at q3
    refine ⟨.ref s.heap.objs.size, _, I.laid (t' := s.toks) (o := .tup []) (fun b ob q => Heap.get?_push_of_some _ q) (Nat.le_refl _) ?_, rfl, q3 _ (I.hok.fresh (Nat.le_refl _))⟩
    exact ⟨Nat.zero_le _, [], .nil, IsTup.new _ _⟩
end DL
set_option maxHeartbeats 2000000
namespace EV
open PySem PySem.Spec PyProof.Rows L2
section
variable {X : Cx} {B : Bx} {G : GC} {a b c e : Expr} {es : List Expr} {fa fb fc f : FE} {fs : FA} {pos p : Pos} {j : Nat}
theorem rw_int {m : Nat → Addr} {n : Nat} {H : Hp} {i : Int} {v : V} (r : RW G m n H (.int i) v) : v = .int i := by cases r; rfl
theorem rw_str {m : Nat → Addr} {n : Nat} {H : Hp} {x : Str} {v : V} (r : RW G m n H (.str x) v) : v = .str x := by cases r; rfl
theorem rw_non {m : Nat → Addr} {n : Nat} {H : Hp} {v : V} (r : RW G m n H .non v) : v = .non := by cases r; rfl
theorem rw_tup {m : Nat → Addr} {n : Nat} {H : Hp} {ws : List W} {v : V} (r : RW G m n H (.tup ws) v) : ∃ a xs, v = .ref a ∧ SqT G.K H a xs ∧ RWs G m n H ws xs := by cases r with | tup s q => exact ⟨_, _, rfl, s, q⟩
theorem rw_ref {m : Nat → Addr} {n i : Nat} {H : Hp} {v : V} (r : RW G m n H (.ref i) v) : v = .ref (m i) ∧ i < n := by cases r with | ref _ h => exact ⟨rfl, h⟩
theorem rws_nil {m : Nat → Addr} {n : Nat} {H : Hp} {vs : List V} (r : RWs G m n H [] vs) : vs = [] := by cases r; rfl
theorem rws_one {m : Nat → Addr} {n : Nat} {H : Hp} {w : W} {vs : List V} (r : RWs G m n H [w] vs) : ∃ v, vs = [v] ∧ RW G m n H w v := by
  cases r with
  | cons a b => cases b; exact ⟨_, rfl, a⟩
theorem rws_two {m : Nat → Addr} {n : Nat} {H : Hp} {w u : W} {vs : List V} (r : RWs G m n H [w, u] vs) : ∃ v x, vs = [v, x] ∧ RW G m n H w v ∧ RW G m n H u x := by
  cases r with
  | cons a b =>
    obtain ⟨x, rfl, q⟩ := rws_one b
    exact ⟨_, x, rfl, a, q⟩
def gI (c : Int → Int → Bool) (g : Int → Int → Int) : W → W → Hpe → Res W
  | .int i, .int j, h => bif c i j then .ok (.int (g i j)) h else .no
  | _, _, _ => .no
def gI0 (g : Int → Int → Int) : W → W → Hpe → Res W
  | .int i, .int j, h => .ok (.int (g i j)) h
  | _, _, _ => .no
def gB0 (g : Int → Int → Bool) : W → W → Hpe → Res W
  | .int i, .int j, h => .ok (.bl (g i j)) h
  | _, _, _ => .no
theorem os_I {C : Int → Int → Prop} {c : Int → Int → Bool} {g : Int → Int → Int} (hc : ∀ i j, c i j = true → C i j) : OpS G (rI C fun i j => .int (g i j)) (gI c g) := by
  intro cl Wx m h H a b x y Q rh ra rb o
  cases a <;> try exact o.elim
  cases b <;> try exact o.elim
  rename_i i j
  obtain rfl := rw_int ra
  obtain rfl := rw_int rb
  simp only [gI] at o
  cases q : c i j with
  | false => rw [q] at o; exact o.elim
  | true => rw [q] at o; exact ⟨i, j, rfl, rfl, hc i j q, o m H _ rh Mv.refl (.int _)⟩
theorem os_I0 {g : Int → Int → Int} : OpS G (rI0 fun i j => .int (g i j)) (gI0 g) := by
  intro cl Wx m h H a b x y Q rh ra rb o
  cases a <;> try exact o.elim
  cases b <;> try exact o.elim
  rename_i i j
  obtain rfl := rw_int ra
  obtain rfl := rw_int rb
  exact ⟨i, j, rfl, rfl, o m H _ rh Mv.refl (.int _)⟩
theorem os_B0 {g : Int → Int → Bool} : OpS G (rI0 fun i j => .bl (g i j)) (gB0 g) := by
  intro cl Wx m h H a b x y Q rh ra rb o
  cases a <;> try exact o.elim
  cases b <;> try exact o.elim
  rename_i i j
  obtain rfl := rw_int ra
  obtain rfl := rw_int rb
  exact ⟨i, j, rfl, rfl, o m H _ rh Mv.refl (.bl _)⟩
def gAdd : W → W → Hpe → Res W
  | .int i, .int j, h => .ok (.int (i + j)) h
  | .tup xs, .tup ys, h => bif line (xs.length + ys.length) then .ok (.tup (xs ++ ys)) h else .no
  | .str x, .str y, h => bif line (x.length + y.length) then .ok (.str (x ++ y)) h else .no
  | .ref i, .ref j, h => match rdL h i, rdL h j with
    | some xs, some ys => bif line (xs.length + ys.length) then h.al (.lst (xs ++ ys)) else .no
    | _, _ => .no
  | _, _, _ => .no
abbrev rAddE (K : PySem.W.Frag) : R2 := fun x y H Q => (rI0 fun i j => .int (i + j)) x y H Q ∨ ((rCatA K x y H Q ∨ DL.rCatL K x y H Q) ∨ (∃ i j, x = V.str i ∧ y = V.str j ∧ i.length + j.length ≤ sizeLine ∧ Q (.str (i ++ j)) H))
theorem op_addE : OpR X (binaryOp .Add) (rAddE X.K) := OpR.or op_add (OpR.or (OpR.or op_catA DL.op_catL) op_add_str)
theorem os_add : OpS G (rAddE G.K) gAdd := by
  intro cl Wx m h H a b x y Q rh ra rb o
  cases a with
  | int i =>
    cases b <;> try exact o.elim
    rename_i j
    obtain rfl := rw_int ra
    obtain rfl := rw_int rb
    exact .inl ⟨i, j, rfl, rfl, o m H _ rh Mv.refl (.int _)⟩
  | tup xs =>
    cases b <;> try exact o.elim
    rename_i ys
    obtain ⟨a, vs, rfl, s1, q1⟩ := rw_tup ra
    obtain ⟨b, us, rfl, s2, q2⟩ := rw_tup rb
    simp only [gAdd] at o
    cases c : line (xs.length + ys.length) with
    | false => rw [c] at o; exact o.elim
    | true =>
      rw [c] at o
      have o : Out G cl (RW G) Wx m h H (.ok (.tup (xs ++ ys)) h) Q := o
      refine .inr (.inl (.inl ⟨a, b, vs, us, rfl, rfl, s1, s2, by rw [← q1.len, ← q2.len]; exact line_le c, fun e => ?_, fun e1 e => ?_, fun e1 e p hp => tup_ok rh o (q1.app q2) p hp⟩))
      · subst e
        have := q1.len
        cases xs with
        | nil => exact o m H _ rh Mv.refl (.tup s2 q2)
        | cons _ _ => simp at this
      · subst e
        have := q2.len
        cases ys with
        | nil => exact o m H _ rh Mv.refl (.tup s1 (by rw [List.append_nil]; exact q1))
        | cons _ _ => simp at this
  | str x =>
    cases b <;> try exact o.elim
    rename_i y
    obtain rfl := rw_str ra
    obtain rfl := rw_str rb
    simp only [gAdd] at o
    cases c : line (x.length + y.length) with
    | false => rw [c] at o; exact o.elim
    | true => rw [c] at o; exact .inr (.inr ⟨x, y, rfl, rfl, line_le c, o m H _ rh Mv.refl (.str _)⟩)
  | ref i =>
    cases b <;> try exact o.elim
    rename_i j
    obtain ⟨rfl, hi⟩ := rw_ref ra
    obtain ⟨rfl, hj⟩ := rw_ref rb
    simp only [gAdd] at o
    split at o
    · rename_i xs ys e1 e2
      obtain ⟨vs, s1, q1⟩ := rh.rd hi e1
      obtain ⟨us, s2, q2⟩ := rh.rd hj e2
      cases c : line (xs.length + ys.length) with
      | false => rw [c] at o; exact o.elim
      | true => rw [c] at o; exact .inr (.inl (.inr ⟨_, _, vs, us, rfl, rfl, s1, s2, by rw [← q1.len, ← q2.len]; exact line_le c, al_ok rh o (.lst (q1.app q2))⟩))
    · exact o.elim
  | _ => exact o.elim
theorem se_add (hK : X.K = B.G.K) (ha : SE X B a fa) (hb : SE X B b fb) : SE X B (.BinOp a .Add b pos) (e2 gAdd fa fb) := se_op (r := rAddE B.G.K) (by rw [← hK]; exact op_addE) os_add ha hb
def cMul (i j : Int) : Bool := (decide (-18446744073709551616 < i) && decide (i < 18446744073709551616)) || (decide (-18446744073709551616 < j) && decide (j < 18446744073709551616))
theorem cMul_ok (i j : Int) (h : cMul i j = true) : CMul i j := by
  simp only [cMul, Bool.or_eq_true, Bool.and_eq_true, decide_eq_true_eq] at h
  rcases h with h | h
  · exact .inl ⟨by omega, by omega⟩
  · exact .inr ⟨by omega, by omega⟩
theorem se_mod (ha : SE X B a fa) (hb : SE X B b fb) : SE X B (.BinOp a .Mod b pos) (e2 (gI (fun _ j => decide (0 < j)) fun i j => i % j) fa fb) := se_op op_mod (os_I fun _ j h => of_decide_eq_true h) ha hb
def cDiv (_ j : Int) : Bool := decide (0 < j) && decide (j < 1073741824)
theorem se_div (ha : SE X B a fa) (hb : SE X B b fb) : SE X B (.BinOp a .FloorDiv b pos) (e2 (gI cDiv fun i j => i / j) fa fb) := se_op op_fdiv (os_I fun i j h => by
  simp only [cDiv, Bool.and_eq_true, decide_eq_true_eq] at h
  exact h) ha hb
def cPow (i j : Int) : Bool := decide (0 ≤ j) && decide (j ≤ 1000) && decide (i.natAbs < 18446744073709551616)
theorem se_pow (ha : SE X B a fa) (hb : SE X B b fb) : SE X B (.BinOp a .Pow b pos) (e2 (gI cPow fun i j => i ^ j.toNat) fa fb) := se_op op_pow (os_I fun i j h => by
  simp only [cPow, Bool.and_eq_true, decide_eq_true_eq] at h
  exact ⟨h.1.1, by omega, h.2⟩) ha hb
theorem se_ge (ha : SE X B a fa) (hb : SE X B b fb) : SE X B (.Compare a [.GtE] [b] pos) (e2 (gB0 fun i j => decide (j ≤ i)) fa fb) := se_cmp op_ge os_B0 ha hb (nomark _)
theorem st_lt (ha : SE X B a fa) (hb : SE X B b fb) : ST X B (.Compare a [.Lt] [b] pos) (asB (e2 (gB0 fun i j => decide (i < j)) fa fb)) := st_cmp op_lt os_B0 ha hb (nomark _)
theorem st_gt (ha : SE X B a fa) (hb : SE X B b fb) : ST X B (.Compare a [.Gt] [b] pos) (asB (e2 (gB0 fun i j => decide (j < i)) fa fb)) := st_cmp op_gt os_B0 ha hb (nomark _)
def toD : Nat → Hpe → W → Option PyData
  | 0, _, _ => none
  | k + 1, h, w => match w with
    | .non => some .none
    | .bl b => some (.bool b)
    | .int i => some (.int i)
    | .str x => some (.str x)
    | .tup ws => match mapO (toD k h) ws with
      | none => none
      | some ds => some (.tuple ds)
    | .ref i => match rdL h i with
      | none => none
      | some ws => match mapO (toD k h) ws with
        | none => none
        | some ds => some (.list ds)
    | .df _ => none
    | .clo _ _ => none
theorem mapO_dp {m : Nat → Addr} {h : Hpe} {H : Hp} {f : W → Option PyData} (hf : ∀ w v d, RW G m h.nx H w v → f w = some d → Dp G.K H v d) : ∀ {ws : List W} {vs : List V} {ds : List PyData}, RWs G m h.nx H ws vs → mapO f ws = some ds → DpAll G.K H vs ds
  | _, _, _, .nil, e => by cases e; exact .nil
  | w :: ws, v :: vs, ds, .cons a b, e => by
    simp only [mapO] at e
    split at e
    · cases e
    · rename_i y ey
      split at e
      · cases e
      · rename_i ys eys
        cases e
        exact .cons (hf w v y a ey) (mapO_dp hf b eys)
theorem toD_dp {m : Nat → Addr} {h : Hpe} {H : Hp} (rh : RH G m h H) : ∀ (k : Nat) (w : W) (v : V) (d : PyData), RW G m h.nx H w v → toD k h w = some d → Dp G.K H v d
  | 0, _, _, _, _, e => by cases e
  | k + 1, w, v, d, r, e => by
    cases w with
    | non => cases e; obtain rfl := rw_non r; exact .non
    | bl b => cases e; obtain rfl := asB_ok r; exact .bl b
    | int i => cases e; obtain rfl := rw_int r; exact .int i
    | str x => cases e; obtain rfl := rw_str r; exact .str x
    | df _ => cases e
    | clo _ _ => cases e
    | tup ws =>
      simp only [toD] at e
      split at e
      · cases e
      · rename_i ds q
        cases e
        obtain ⟨a, xs, rfl, s, rs⟩ := rw_tup r
        exact .tup s (mapO_dp (toD_dp rh k) rs q)
    | ref i =>
      simp only [toD] at e
      split at e
      · cases e
      · rename_i ws q0
        split at e
        · cases e
        · rename_i ds q
          cases e
          obtain ⟨rfl, hi⟩ := rw_ref r
          obtain ⟨xs, s, rs⟩ := rh.rd hi q0
          exact .lst s (mapO_dp (toD_dp rh k) rs q)
def gEq (neg : Bool) : W → W → Hpe → Res W := fun a b h => match toD 70 h a, toD 70 h b with
  | some d, some e => bif SeqAt.shaped d && SeqAt.shaped e then .ok (.bl (neg != PyData.eqv d e)) h else .no
  | _, _ => .no
theorem os_eq : OpS G (rEqD G.K) (gEq false) := by
  intro cl Wx m h H a b x y Q rh ra rb o
  simp only [gEq] at o
  split at o
  · rename_i d e e1 e2
    cases c : SeqAt.shaped d && SeqAt.shaped e with
    | false => rw [c] at o; exact o.elim
    | true =>
      rw [c] at o
      have c' := (Bool.and_eq_true _ _).mp c
      refine ⟨d, e, toD_dp rh 70 a x d ra e1, toD_dp rh 70 b y e rb e2, c'.1, c'.2, ?_⟩
      have := o m H _ rh Mv.refl (.bl _)
      simpa using this
  · exact o.elim
theorem os_ne : OpS G (rNeD G.K) (gEq true) := by
  intro cl Wx m h H a b x y Q rh ra rb o
  simp only [gEq] at o
  split at o
  · rename_i d e e1 e2
    cases c : SeqAt.shaped d && SeqAt.shaped e with
    | false => rw [c] at o; exact o.elim
    | true =>
      rw [c] at o
      have c' := (Bool.and_eq_true _ _).mp c
      refine ⟨d, e, toD_dp rh 70 a x d ra e1, toD_dp rh 70 b y e rb e2, c'.1, c'.2, ?_⟩
      have := o m H _ rh Mv.refl (.bl _)
      simpa using this
  · exact o.elim
theorem se_eq (hK : X.K = B.G.K) (hu : X.A.units + 64 < cLine) (ha : SE X B a fa) (hb : SE X B b fb) : SE X B (.Compare a [.Eq] [b] pos) (e2 (gEq false) fa fb) := se_cmp (r := rEqD B.G.K) (by rw [← hK]; exact op_eqD hu) os_eq ha hb (nomark _)
theorem se_ne (hK : X.K = B.G.K) (hu : X.A.units + 64 < cLine) (ha : SE X B a fa) (hb : SE X B b fb) : SE X B (.Compare a [.NotEq] [b] pos) (e2 (gEq true) fa fb) := se_cmp (r := rNeD B.G.K) (by rw [← hK]; exact op_neD hu) os_ne ha hb (nomark _)
theorem st_eq (hK : X.K = B.G.K) (hu : X.A.units + 64 < cLine) (ha : SE X B a fa) (hb : SE X B b fb) : ST X B (.Compare a [.Eq] [b] pos) (asB (e2 (gEq false) fa fb)) := st_cmp (r := rEqD B.G.K) (by rw [← hK]; exact op_eqD hu) os_eq ha hb (nomark _)
theorem st_ne (hK : X.K = B.G.K) (hu : X.A.units + 64 < cLine) (ha : SE X B a fa) (hb : SE X B b fb) : ST X B (.Compare a [.NotEq] [b] pos) (asB (e2 (gEq true) fa fb)) := st_cmp (r := rNeD B.G.K) (by rw [← hK]; exact op_neD hu) os_ne ha hb (nomark _)
def gIsN (neg : Bool) : W → W → Hpe → Res W := fun a b h => match b with
  | .non => .ok (.bl (neg != match a with | .non => true | _ => false)) h
  | _ => .no
theorem os_isN : OpS G (fun x y H Q => y = V.non ∧ Q (.bl (decide (x = .non))) H) (gIsN false) := by
  intro cl Wx m h H a b x y Q rh ra rb o
  cases b <;> try exact o.elim
  refine ⟨rw_non rb, ?_⟩
  have := o m H _ rh Mv.refl (.bl _)
  cases ra <;> simpa using this
theorem se_isN (ha : SE X B a fa) (hb : SE X B b fb) : SE X B (.Compare a [.Is] [b] pos) (e2 (gIsN false) fa fb) := se_cmp op_isN os_isN ha hb (nomark _)
theorem st_isN (ha : SE X B a fa) (hb : SE X B b fb) : ST X B (.Compare a [.Is] [b] pos) (asB (e2 (gIsN false) fa fb)) := st_cmp op_isN os_isN ha hb (nomark _)
def gIx : W → W → Hpe → Res W
  | .tup ws, .int i, h => match atI ws i with
    | some w => .ok w h
    | none => .no
  | .ref n, .int i, h => match rdL h n with
    | some ws => match atI ws i with
      | some w => .ok w h
      | none => .no
    | none => .no
  | _, _, _ => .no
theorem atI_rw {m : Nat → Addr} {n : Nat} {H : Hp} {ws : List W} {vs : List V} {i : Int} {w : W} (r : RWs G m n H ws vs) (e : atI ws i = some w) : ∃ v, atI vs i = some v ∧ RW G m n H w v := by
  unfold atI at e ⊢
  rw [← r.len]
  cases q : ixN ws.length i with
  | none => rw [q] at e; cases e
  | some j =>
    rw [q] at e
    exact r.get (i := j) e
theorem os_ix : OpS G (rIx G.K) gIx := by
  intro cl Wx m h H a b x y Q rh ra rb o
  cases a <;> try exact o.elim
  · rename_i ws
    cases b <;> try exact o.elim
    rename_i i
    obtain rfl := rw_int rb
    obtain ⟨a, vs, rfl, s, q⟩ := rw_tup ra
    simp only [gIx] at o
    split at o
    · rename_i w e
      obtain ⟨v, e1, r⟩ := atI_rw q e
      exact .inr (.inl ⟨a, vs, i, v, rfl, rfl, s, e1, o m H v rh Mv.refl r⟩)
    · exact o.elim
  · rename_i n
    cases b <;> try exact o.elim
    rename_i i
    obtain rfl := rw_int rb
    obtain ⟨rfl, hn⟩ := rw_ref ra
    simp only [gIx] at o
    split at o
    · rename_i ws e0
      obtain ⟨vs, s, q⟩ := rh.rd hn e0
      split at o
      · rename_i w e
        obtain ⟨v, e1, r⟩ := atI_rw q e
        exact .inl ⟨_, vs, i, v, rfl, rfl, s, e1, o m H v rh Mv.refl r⟩
      · exact o.elim
    · exact o.elim
abbrev FO := Rho → Hpe → Res (Option Int)
abbrev RO' : (Nat → Addr) → Nat → Hp → Option Int → Option Int → Prop := fun _ _ _ a b => a = b
def tO (B : Bx) (f : FO) : TO := fun σ H Q => ∃ m h ρ, SS B.G B.cf m h ρ σ H ∧ Out B.G B.cl RO' (fun c d H' => B.W c d σ H') m h H (f ρ h) Q
def SO (X : Cx) (B : Bx) (e : Option Expr) (f : FO) : Prop := PO X e (tO B f)
theorem po_imp {e : Option Expr} {t t' : TO} (h : PO X e t) (i : ∀ σ H Q, t' σ H Q → t σ H Q) : PO X e t' := ⟨fun pins s σ H Q I q => h.run pins s σ H Q I (i σ H Q q)⟩
def oS (f : FE) : FO := fun ρ h => (f ρ h).bind fun w h1 => match w with
  | .int i => .ok (some i) h1
  | _ => .no
def oN : FO := fun _ h => .ok none h
theorem so_some (h : SE X B e f) : SO X B (some e) (oS f) := po_imp (po_some h) fun σ H Q ⟨m, h, ρ, s, o⟩ => ⟨m, h, ρ, s, (Out.bind s.rh o).mono fun v H1 ⟨w, m1, h1, r1, v1, q1, o1⟩ => by
  cases w <;> try exact o1.elim
  rename_i i
  obtain rfl := rw_int q1
  exact ⟨i, rfl, o1 m1 H1 _ r1 Mv.refl rfl⟩⟩
theorem so_none : SO X B none oN := po_imp po_none fun σ H Q ⟨m, h, ρ, s, o⟩ => o m H _ s.rh Mv.refl rfl
def cutW (ws : List W) (lo hi : Option Int) : List W := (ws.drop (HT.sIx ws.length 0 lo)).take (HT.sIx ws.length ws.length hi - HT.sIx ws.length 0 lo)
theorem cut_rw {m : Nat → Addr} {n : Nat} {H : Hp} {ws : List W} {vs : List V} (r : RWs G m n H ws vs) (lo hi : Option Int) : RWs G m n H (cutW ws lo hi) (cutV vs lo hi) := by
  unfold cutW cutV
  rw [← r.len]
  exact (r.drop _).take _
def eSl (f : FE) (fl fh : FO) : FE := fun ρ h => (f ρ h).bind fun w h1 => (fl ρ h1).bind fun lo h2 => (fh ρ h2).bind fun hi h3 => match w with
  | .tup ws => .ok (.tup (cutW ws lo hi)) h3
  | .ref n => match rdL h3 n with
    | some ws => h3.al (.lst (cutW ws lo hi))
    | none => .no
  | _ => .no
theorem cut_whole {α : Type} {ws : List W} {lo hi : Option Int} (h : HT.sIx ws.length 0 lo = 0 ∧ HT.sIx ws.length ws.length hi = ws.length) : cutW ws lo hi = ws := by
  unfold cutW
  rw [h.1, h.2, List.drop_zero, Nat.sub_zero, List.take_length]
theorem se_sl (hK : X.K = B.G.K) {lo hi : Option Expr} {p2 : Pos} {fl fh : FO} (he : SE X B e f) (hl : SO X B lo fl) (hh : SO X B hi fh) : SE X B (.Subscript e (.Slice lo hi none p2) pos) (eSl f fl fh) :=
  pe_imp (pe_slice (r := fun x lo hi H Q => rSlA B.G.K x lo hi H Q ∨ rSlL B.G.K x lo hi H Q) (by rw [← hK]; exact DL.sl_D) he hl hh) fun σ H Q ⟨m, h, ρ, s, o⟩ =>
    ⟨m, h, ρ, s, (Out.bind s.rh o).mono fun v H1 ⟨w, m1, h1, r1, v1, q1, o1⟩ => ⟨m1, h1, ρ, s.mv r1 v1, (Out.bind r1 o1).mono fun lo H2 ⟨lo', m2, h2, r2, v2, q2, o2⟩ => ⟨m2, h2, ρ, (s.mv r1 v1).mv r2 v2, (Out.bind r2 o2).mono fun hi H3 ⟨hi', m3, h3, r3, v3, q3, o3⟩ => by
      subst q2; subst q3
      have q1' := (q1.mono v2.old v2.le (v2.tupk r1)).mono v3.old v3.le (v3.tupk r2)
      cases w <;> try exact o3.elim
      · rename_i ws
        obtain ⟨a, vs, rfl, sq, q⟩ := rw_tup q1'
        refine .inl ⟨a, vs, rfl, sq, fun z => ?_, fun _ p hp => tup_ok r3 o3 (cut_rw q _ _) p hp⟩
        rw [← q.len] at z
        exact o3 m3 H3 _ r3 Mv.refl (by rw [cut_whole (α := W) z]; exact .tup sq q)
      · rename_i n
        obtain ⟨rfl, hn⟩ := rw_ref q1'
        simp only at o3
        split at o3
        · rename_i ws e0
          obtain ⟨vs, sq, q⟩ := r3.rd hn e0
          exact .inr ⟨_, vs, rfl, sq, al_ok r3 o3 (.lst (cut_rw q _ _))⟩
        · exact o3.elim⟩⟩⟩
end
end EV
namespace EV
open PySem PySem.Spec PyProof.Rows L2
inductive RS where
  | nx (ρ : Rho) (h : Hpe)
  | rt (w : W) (h : Hpe)
  | bk (ρ : Rho) (h : Hpe)
  | ct (ρ : Rho) (h : Hpe)
  | ex (x : Exc) (ρ : Rho) (h : Hpe)
  | no
abbrev FS := Rho → Hpe → RS
def RS.seq : RS → (Rho → Hpe → RS) → RS
  | .nx ρ h, k => k ρ h
  | r, _ => r
def bindS {α : Type} (r : Res α) (ρ : Rho) (k : α → Hpe → RS) : RS := match r with
  | .ok a h => k a h
  | .ex x h => .ex x ρ h
  | .no => .no
def OutS (B : Bx) (m : Nat → Addr) (h : Hpe) (H : Hp) (D : Ends) : RS → Prop
  | .nx ρ' h' => ∀ m' H' σ', SS B.G B.cf m' h' ρ' σ' H' → Mv m h.nx H m' h'.nx H' → D.nx σ' H'
  | .rt w h' => ∀ m' H' v, RH B.G m' h' H' → Mv m h.nx H m' h'.nx H' → RW B.G m' h'.nx H' w v → D.rt v H'
  | .bk ρ' h' => ∀ m' H' σ', SS B.G B.cf m' h' ρ' σ' H' → Mv m h.nx H m' h'.nx H' → D.bk σ' H'
  | .ct ρ' h' => ∀ m' H' σ', SS B.G B.cf m' h' ρ' σ' H' → Mv m h.nx H m' h'.nx H' → D.ct σ' H'
  | .ex x ρ' h' => ∀ m' H' σ' c d, SS B.G B.cf m' h' ρ' σ' H' → Mv m h.nx H m' h'.nx H' → ExR B.G B.cl m' h'.nx H' x c d → B.W c d σ' H'
  | .no => False
section
variable {α β : Type} {B : Bx} {R : (Nat → Addr) → Nat → Hp → α → β → Prop} {m m1 : Nat → Addr} {h h1 : Hpe} {H H1 : Hp} {D D' : Ends} {ρ : Rho} {σ : L2.St}
theorem OutS.shift {r : RS} (rh : RH B.G m h H) (rh1 : RH B.G m1 h1 H1) (mv : Mv m h.nx H m1 h1.nx H1) (o : OutS B m h H D r) : OutS B m1 h1 H1 D r := by
  have t : ∀ {m' n' H'}, Mv m1 h1.nx H1 m' n' H' → Mv m h.nx H m' n' H' := fun b => mv.trans (rh1.mv_ne mv) b
  cases r with
  | nx ρ' h' => exact fun m' H' σ' a b => o m' H' σ' a (t b)
  | rt w h' => exact fun m' H' v a b c => o m' H' v a (t b) c
  | bk ρ' h' => exact fun m' H' σ' a b => o m' H' σ' a (t b)
  | ct ρ' h' => exact fun m' H' σ' a b => o m' H' σ' a (t b)
  | ex x ρ' h' => exact fun m' H' σ' c d a b e => o m' H' σ' c d a (t b) e
  | no => exact o
theorem OutS.mono {r : RS} (o : OutS B m h H D r) (f1 : ∀ σ H, D.nx σ H → D'.nx σ H) (f2 : ∀ v H, D.rt v H → D'.rt v H) (f3 : ∀ σ H, D.bk σ H → D'.bk σ H) (f4 : ∀ σ H, D.ct σ H → D'.ct σ H) : OutS B m h H D' r := by
  cases r with
  | nx ρ' h' => exact fun m' H' σ' a b => f1 _ _ (o m' H' σ' a b)
  | rt w h' => exact fun m' H' v a b c => f2 _ _ (o m' H' v a b c)
  | bk ρ' h' => exact fun m' H' σ' a b => f3 _ _ (o m' H' σ' a b)
  | ct ρ' h' => exact fun m' H' σ' a b => f4 _ _ (o m' H' σ' a b)
  | ex x ρ' h' => exact o
  | no => exact o
theorem OutS.bind {r : Res α} {k : α → Hpe → RS} (s : SS B.G B.cf m h ρ σ H) (o : OutS B m h H D (bindS r ρ k)) :
    Out B.G B.cl R (fun c d H' => B.W c d σ H') m h H r fun v H1 => ∃ a m1 h1, RH B.G m1 h1 H1 ∧ Mv m h.nx H m1 h1.nx H1 ∧ R m1 h1.nx H1 a v ∧ OutS B m1 h1 H1 D (k a h1) := by
  cases r with
  | ok a h' => exact fun m' H' v a' b c => ⟨a, m', h', a', b, c, OutS.shift s.rh a' b o⟩
  | ex x h' => exact fun m' H' c d a b e => o m' H' σ c d (s.mv a b) b e
  | no => exact o
theorem OutS.seq {r : RS} {k : Rho → Hpe → RS} (s : RH B.G m h H) (o : OutS B m h H D (r.seq k)) :
    OutS B m h H { D with nx := fun σ' H' => ∃ m1 h1 ρ1, SS B.G B.cf m1 h1 ρ1 σ' H' ∧ Mv m h.nx H m1 h1.nx H' ∧ OutS B m1 h1 H' D (k ρ1 h1) } r := by
  cases r with
  | nx ρ' h' => exact fun m' H' σ' a b => ⟨m', h', ρ', a, b, OutS.shift s a.rh b o⟩
  | rt w h' => exact o
  | bk ρ' h' => exact o
  | ct ρ' h' => exact o
  | ex x ρ' h' => exact o
  | no => exact o
end
def tS (B : Bx) (f : FS) : TS := fun D σ H => ∃ m h ρ, SS B.G B.cf m h ρ σ H ∧ OutS B m h H D (f ρ h)
def SSt (X : Cx) (B : Bx) (st : Stmt) (f : FS) : Prop := PS X st (tS B f)
def SSs (X : Cx) (B : Bx) (st : List Stmt) (f : FS) : Prop := PSs X st (tS B f)
theorem ps_imp {X : Cx} {e : Stmt} {t t' : TS} (h : PS X e t) (i : ∀ D σ H, t' D σ H → t D σ H) : PS X e t' := ⟨fun pins s σ H D I q => h.run pins s σ H D I (i D σ H q)⟩
theorem pss_imp {X : Cx} {e : List Stmt} {t t' : TS} (h : PSs X e t) (i : ∀ D σ H, t' D σ H → t D σ H) : PSs X e t' := ⟨fun pins s σ H D I q => h.run pins s σ H D I (i D σ H q)⟩
abbrev FG := W → Rho → Hpe → RS
abbrev FGs := List W → Rho → Hpe → RS
def nxOnly (Q : L2.St → Hp → Prop) : Ends := { nx := Q, rt := fun _ _ => False }
def Oth (vs : List Nat) (σ' σ : L2.St) : Prop := σ'.length = σ.length ∧ ∀ j, j ∉ vs → σ'[j]? = σ[j]?
theorem Oth.refl {vs : List Nat} {σ : L2.St} : Oth vs σ σ := ⟨rfl, fun _ _ => rfl⟩
theorem Oth.set {vs : List Nat} {σ : L2.St} {i : Nat} {x : Option V} (hi : i ∈ vs) : Oth vs (σ.set i x) σ := ⟨List.length_set, fun j hj => List.getElem?_set_ne (fun z : i = j => hj (by rw [← z]; exact hi))⟩
theorem Oth.trans {us vs : List Nat} {σ σ1 σ2 : L2.St} (a : Oth us σ1 σ) (b : Oth vs σ2 σ1) : Oth (us ++ vs) σ2 σ :=
  ⟨b.1.trans a.1, fun j hj => (b.2 j fun z => hj (List.mem_append_right _ z)).trans (a.2 j fun z => hj (List.mem_append_left _ z))⟩
theorem Oth.sub {us vs : List Nat} {σ σ' : L2.St} (a : Oth us σ' σ) (h : ∀ i ∈ us, i ∈ vs) : Oth vs σ' σ := ⟨a.1, fun j hj => a.2 j fun z => hj (h j z)⟩
theorem Oth.wipe {vs : List Nat} {σ σ' : L2.St} (a : Oth vs σ' σ) : wipe σ' vs = wipe σ vs := by
  apply List.ext_getElem?
  intro j
  rw [DL.wipe_at, DL.wipe_at, a.1]
  by_cases c : j ∈ vs
  · by_cases d : j < σ.length
    · rw [if_pos ⟨c, d⟩, if_pos ⟨c, d⟩]
    · rw [if_neg (fun z => d z.2), if_neg (fun z => d z.2), List.getElem?_eq_none_iff.mpr (by rw [a.1]; omega), List.getElem?_eq_none_iff.mpr (by omega)]
  · rw [if_neg (fun z => c z.1), if_neg (fun z => c z.1), a.2 j c]
def tG (B : Bx) (f : FG) (vs : List Nat) : TG := fun v σ H Q => ∃ m h ρ w, SS B.G B.cf m h ρ σ H ∧ RW B.G m h.nx H w v ∧ OutS B m h H (nxOnly fun σ' H' => Oth vs σ' σ → Q σ' H') (f w ρ h)
def tGs (B : Bx) (f : FGs) (vs : List Nat) : TGs := fun us σ H Q => ∃ m h ρ ws, SS B.G B.cf m h ρ σ H ∧ RWs B.G m h.nx H ws us ∧ OutS B m h H (nxOnly fun σ' H' => Oth vs σ' σ → Q σ' H') (f ws ρ h)
def SG (X : Cx) (B : Bx) (e : Expr) (f : FG) (vs : List Nat) : Prop := PG X e (tG B f vs)
def SGs (X : Cx) (B : Bx) (es : List Expr) (f : FGs) (vs : List Nat) : Prop := PGs X es (tGs B f vs)
theorem pg_imp {X : Cx} {e : Expr} {t t' : TG} (h : PG X e t) (i : ∀ v σ H Q, t' v σ H Q → t v σ H Q) : PG X e t' := ⟨fun pins s σ H v u Q I r q => h.run pins s σ H v u Q I r (i v σ H Q q)⟩
theorem pgs_imp {X : Cx} {e : List Expr} {t t' : TGs} (h : PGs X e t) (i : ∀ v σ H Q, t' v σ H Q → t v σ H Q) : PGs X e t' := ⟨fun pins s σ H v u Q I r q => h.run pins s σ H v u Q I r (i v σ H Q q)⟩
section
variable {X : Cx} {B : Bx} {a b c e tg : Expr} {es tgs : List Expr} {st : Stmt} {sts : List Stmt} {fa fb fc f : FE} {ft : FT} {fs : FA} {s1 s2 : FS} {g : FG} {gs : FGs} {pos p : Pos} {j : Nat}
theorem SS.set {G : GC} {cf : CF} {m : Nat → Addr} {h : Hpe} {ρ : Rho} {σ : L2.St} {H : Hp} (s : SS G cf m h ρ σ H) {w : W} {v : V} (r : RW G m h.nx H w v) (i : Nat) : SS G cf m h (ρ.set i (some w)) (σ.set i (some v)) H :=
  ⟨s.rh, by rw [List.length_set, List.length_set]; exact s.len, fun k u e => by
    rw [List.getElem?_set] at e
    by_cases c : i = k
    · rw [if_pos c] at e
      split at e
      · rename_i hk
        cases e
        exact ⟨v, by rw [List.getElem?_set, if_pos c, if_pos (by rw [← s.len]; exact hk)], .rw r⟩
      · cases e
    · rw [if_neg c] at e
      obtain ⟨v', e', r'⟩ := s.sl k u e
      exact ⟨v', by rw [List.getElem?_set, if_neg c]; exact e', r'⟩⟩
def gN (i : Nat) : FG := fun w ρ h => .nx (setR ρ i (some w)) h
theorem sg_n {i : Nat} (h : PG X tg (gName i)) : SG X B tg (gN i) [i] := pg_imp h fun v σ H Q ⟨m, h, ρ, w, s, r, o⟩ => o m H _ (by rw [setR_eq]; exact s.set r i) Mv.refl (.set (List.mem_singleton.mpr rfl))
def gsN : FGs := fun ws ρ h => match ws with
  | [] => .nx ρ h
  | _ => .no
def gsC (g : FG) (gs : FGs) : FGs := fun ws ρ h => match ws with
  | w :: r => (g w ρ h).seq fun ρ' h' => gs r ρ' h'
  | [] => .no
variable {us vs : List Nat}
theorem sgs_nil : SGs X B [] gsN [] := pgs_imp pgs_nil fun v σ H Q ⟨m, h, ρ, ws, s, r, o⟩ => by
  cases ws with
  | nil => cases r; exact ⟨rfl, o m H _ s Mv.refl .refl⟩
  | cons _ _ => exact o.elim
theorem sgs_cons (h1 : SG X B tg g us) (h2 : SGs X B tgs gs vs) (hs : (assignEach (tg :: tgs) X.env).map (·.2) = assign tg X.env :: (assignEach tgs X.env).map (·.2)) : SGs X B (tg :: tgs) (gsC g gs) (us ++ vs) :=
  pgs_imp (pgs_cons h1 h2 hs) fun v σ H Q ⟨m, h, ρ, ws, s, r, o⟩ => by
    cases ws with
    | nil => exact o.elim
    | cons w ws =>
      cases r with
      | @cons _ _ u us ra rb =>
        exact ⟨u, us, rfl, m, h, ρ, w, s, ra, (OutS.seq s.rh o).mono (fun σ' H' ⟨m1, h1, ρ1, s1, v1, o1⟩ oth => ⟨m1, h1, ρ1, ws, s1, rb.mono v1.old v1.le (v1.tupk s.rh), o1.mono (fun σ2 H2 q oth2 => q (oth.trans oth2)) (fun _ _ z => z) (fun _ _ z => z) (fun _ _ z => z)⟩) (fun _ _ z => z) (fun _ _ z => z) (fun _ _ z => z)⟩
theorem beq_eq {a b : Nat} (h : Nat.beq a b = true) : a = b := Nat.eq_of_beq_eq_true h
def sNil : FS := fun ρ h => .nx ρ h
def sSeq (s1 s2 : FS) : FS := fun ρ h => (s1 ρ h).seq s2
theorem ss_nil : SSs X B [] sNil := pss_imp pss_nil fun D σ H ⟨m, h, ρ, s, o⟩ => o m H σ s Mv.refl
theorem ss_cons (h1 : SSt X B st s1) (h2 : SSs X B sts s2) : SSs X B (st :: sts) (sSeq s1 s2) :=
  pss_imp (pss_cons h1 h2) fun D σ H ⟨m, h, ρ, s, o⟩ => ⟨m, h, ρ, s, (OutS.seq s.rh o).mono (fun σ' H' ⟨m1, h1, ρ1, s1, v1, o1⟩ => ⟨m1, h1, ρ1, s1, o1⟩) (fun _ _ z => z) (fun _ _ z => z) (fun _ _ z => z)⟩
def sEx (f : FE) : FS := fun ρ h => bindS (f ρ h) ρ fun _ h1 => .nx ρ h1
theorem ss_expr (he : SE X B e f) (hs : swapsWith e none pos.line X.env = pure false) : SSt X B (.Expr e pos) (sEx f) :=
  ps_imp (ps_expr he hs) fun D σ H ⟨m, h, ρ, s, o⟩ => ⟨m, h, ρ, s, (OutS.bind s o).mono fun v H1 ⟨w, m1, h1, r1, v1, q1, o1⟩ => o1 m1 H1 σ (s.mv r1 v1) Mv.refl⟩
def sRt (f : FE) : FS := fun ρ h => bindS (f ρ h) ρ fun w h1 => .rt w h1
theorem ss_ret (he : SE X B e f) : SSt X B (.Return (some e) pos) (sRt f) :=
  ps_imp (ps_ret he) fun D σ H ⟨m, h, ρ, s, o⟩ => ⟨m, h, ρ, s, (OutS.bind s o).mono fun v H1 ⟨w, m1, h1, r1, v1, q1, o1⟩ => o1 m1 H1 v r1 Mv.refl q1⟩
def sRtN : FS := fun _ h => .rt .non h
def sIf (t : FT) (s1 s2 : FS) : FS := fun ρ h => bindS (t ρ h) ρ fun b h1 => bif b then s1 ρ h1 else s2 ρ h1
theorem ss_if {x y : List Stmt} (hc : ST X B c ft) (ha : SSs X B x s1) (hb : SSs X B y s2) : SSt X B (.If c x y pos) (sIf ft s1 s2) :=
  ps_imp (ps_if hc ha hb) fun D σ H ⟨m, h, ρ, s, o⟩ => ⟨m, h, ρ, s, (OutS.bind s o).mono fun v H1 ⟨w, m1, h1, r1, v1, q1, o1⟩ => by
    subst q1
    cases w with
    | true => rw [if_pos rfl]; exact ⟨m1, h1, ρ, s.mv r1 v1, o1⟩
    | false => rw [if_neg (by decide)]; exact ⟨m1, h1, ρ, s.mv r1 v1, o1⟩⟩
def RS.cl : RS → RS
  | .nx ρ h => .nx ρ h
  | .ex x ρ h => .ex x ρ h
  | _ => .no
theorem OutS.cl {m : Nat → Addr} {h : Hpe} {H : Hp} {D : Ends} {r : RS} (o : OutS B m h H D r.cl) : OutS B m h H (nxOnly D.nx) r := by
  cases r with
  | nx ρ' h' => exact o
  | ex x ρ' h' => exact o
  | no => exact o
  | rt w h' => exact o.elim
  | bk ρ' h' => exact o.elim
  | ct ρ' h' => exact o.elim
def sAs (f : FE) (g : FG) : FS := fun ρ h => bindS (f ρ h) ρ fun w h1 => (g w ρ h1).cl
theorem as_ok {D : Ends} {σ : L2.St} {H : Hp} (i : tS B (sAs f g) D σ H) : tAsg (tE B.G B.cf B.cl B.W f) (tG B g us) D σ H := by
  obtain ⟨m, h, ρ, s, o⟩ := i
  exact ⟨m, h, ρ, s, (OutS.bind s o).mono fun v H1 ⟨w, m1, h1, r1, v1, q1, o1⟩ => ⟨m1, h1, ρ, w, s.mv r1 v1, q1, o1.cl.mono (fun _ _ z _ => z) (fun _ _ z => z) (fun _ _ z => z) (fun _ _ z => z)⟩⟩
theorem ss_asg (he : SE X B e f) (hg : SG X B tg g us) (hs : swapsWithSole [tg] e pos.line X.env = pure false) (hw : swappedStores [tg] e X.env = pure none) (h1 : (assignEach [tg] X.env).map (·.2) = [assign tg X.env]) : SSt X B (.Assign [tg] e pos) (sAs f g) :=
  ps_imp (ps_asg he hg hs hw h1) fun D σ H i => as_ok i
theorem ss_set {i : Nat} {x : Str} {pos' : Pos} (hN : X.N.Nodup) (hi : X.N[i]? = some x) (hx : Loc X.env.scope x) (he : SE X B e f) (hs : swapsWith e (some (.Name x pos')) pos.line X.env = pure false) (hf : X.fn x = true ∨ X.env.scope.names.lookup x = some .local) :
    SSt X B (.Assign [.Name x pos'] e pos) (sAs f (gN i)) :=
  ps_imp (ps_set hN hi hx he hs hf) fun D σ H ⟨m, h, ρ, s, o⟩ => ⟨m, h, ρ, s, (OutS.bind s o).mono fun v H1 ⟨w, m1, h1, r1, v1, q1, o1⟩ => o1 m1 H1 _ (by rw [setR_eq]; exact (s.mv r1 v1).set q1 i) Mv.refl⟩
def sPar (i j : Nat) (fs : FA) : FS := fun ρ h => bindS (fs ρ h) ρ fun ws h1 => match ws with
  | [w, u] => .nx ((ρ.set i (some w)).set j (some u)) h1
  | _ => .no
theorem ss_par {i j : Nat} {x y : Str} {a b : Expr} {px py pt : Pos} {kt k2 : Nat} {pt2 : Pos} (hc : X.calm = true) (hN : X.N.Nodup) (hi : X.N[i]? = some x) (hj : X.N[j]? = some y) (hij : i ≠ j)
    (hx : X.env.scope.names.lookup x = some .local) (hy : X.env.scope.names.lookup y = some .local) (ha : SA X B [a, b] fs)
    (hw : swappedStores [.Tuple [.Name x px, .Name y py] kt pt] (.Tuple [a, b] k2 pt2) X.env = pure (some [x, y]))
    (hs : swapsWithSole [.Tuple [.Name x px, .Name y py] kt pt] (.Tuple [a, b] k2 pt2) pos.line X.env = pure false) :
    SSt X B (.Assign [.Tuple [.Name x px, .Name y py] kt pt] (.Tuple [a, b] k2 pt2) pos) (sPar i j fs) :=
  ps_imp (ps_par hc hN hi hj hij hx hy ha hw hs) fun D σ H ⟨m, h, ρ, s, o⟩ => ⟨m, h, ρ, s, (OutS.bind s o).mono fun vs H1 ⟨ws, m1, h1, r1, v1, q1, o1⟩ => by
    match ws, o1 with
    | [w, u], o1 =>
      obtain ⟨v, x, rfl, a1, a2⟩ := rws_two q1
      exact ⟨v, x, rfl, o1 m1 H1 _ (((s.mv r1 v1).set a1 i).set a2 j) Mv.refl⟩⟩
def sAu (i : Nat) (f : FE) (g : W → W → Hpe → Res W) : FS := fun ρ h => match nthR ρ i with
  | some (some w) => bif noClo w then bindS (f ρ h) ρ fun u h1 => bindS (g w u h1) ρ fun z h2 => .nx (setR ρ i (some z)) h2 else .no
  | _ => .no
theorem ss_aug {i : Nat} {x : Str} {op : Operator} {r : R2} {g : W → W → Hpe → Res W} {pos' : Pos} (hN : X.N.Nodup) (hi : X.N[i]? = some x) (hx : Loc X.env.scope x) (he : SE X B e f) (ho : PIp X op r) (hg : OpS B.G r g) (hf : X.fn x = true ∨ X.env.scope.names.lookup x = some .local) :
    SSt X B (.AugAssign (.Name x pos') op e pos) (sAu i f g) :=
  ps_imp (ps_aug hN hi hx he ho hf) fun D σ H ⟨m, h, ρ, s, o⟩ => by
    simp only [sAu, nthR_eq, setR_eq] at o
    split at o
    · rename_i w ew
      obtain ⟨v, e1, rc⟩ := s.sl i w ew
      cases cn : noClo w with
      | false => rw [cn] at o; exact o.elim
      | true =>
      rw [cn] at o
      have rv := rc.rw_of cn
      refine ⟨v, e1, m, h, ρ, s, (OutS.bind s o).mono fun y H1 ⟨u, m1, h1, r1, v1, q1, o1⟩ => ?_⟩
      have s1 := s.mv r1 v1
      refine hg B.cl (fun c d H' => B.W c d σ H') m1 h1 H1 w u v y _ r1 (rv.mono v1.old v1.le (v1.tupk s.rh)) q1 ((OutS.bind s1 o1).mono fun z H2 ⟨z', m2, h2, r2, v2, q2, o2⟩ => o2 m2 H2 _ ((s1.mv r2 v2).set q2 i) Mv.refl)
    · exact o.elim
def whileE (t : FT) (b : FS) : Nat → FS
  | 0, _, _ => .no
  | k + 1, ρ, h => bindS (t ρ h) ρ fun c h1 => bif c then (match b ρ h1 with
      | .nx ρ' h' => whileE t b k ρ' h'
      | .ct ρ' h' => whileE t b k ρ' h'
      | .bk ρ' h' => .nx ρ' h'
      | .rt w h' => .rt w h'
      | .ex x ρ' h' => .ex x ρ' h'
      | .no => .no) else .nx ρ h1
def sWh (t : FT) (b : FS) : FS := whileE t b 1000000
theorem loop_body {m : Nat → Addr} {h : Hpe} {H : Hp} {D : Ends} {r : RS} {k : Rho → Hpe → RS} (rh : RH B.G m h H) (o : OutS B m h H D (match r with
      | .nx ρ' h' => k ρ' h'
      | .ct ρ' h' => k ρ' h'
      | .bk ρ' h' => .nx ρ' h'
      | .rt w h' => .rt w h'
      | .ex x ρ' h' => .ex x ρ' h'
      | .no => .no)) :
    OutS B m h H { D with nx := fun σ' H' => ∃ m' h' ρ', SS B.G B.cf m' h' ρ' σ' H' ∧ Mv m h.nx H m' h'.nx H' ∧ OutS B m' h' H' D (k ρ' h'), ct := fun σ' H' => ∃ m' h' ρ', SS B.G B.cf m' h' ρ' σ' H' ∧ Mv m h.nx H m' h'.nx H' ∧ OutS B m' h' H' D (k ρ' h'), bk := D.nx } r := by
  cases r with
  | nx ρ' h' => exact fun m' H' σ' a b => ⟨m', h', ρ', a, b, OutS.shift rh a.rh b o⟩
  | ct ρ' h' => exact fun m' H' σ' a b => ⟨m', h', ρ', a, b, OutS.shift rh a.rh b o⟩
  | bk ρ' h' => exact o
  | rt w h' => exact o
  | ex x ρ' h' => exact o
  | no => exact o
theorem ss_while {x : List Stmt} (hp : PassesOwn (model X.prog X.w) X.A X.env X.xe) (hc : ST X B c ft) (hb : SSs X B x s1) : SSt X B (.While c x [] pos) (sWh ft s1) :=
  ps_imp (ps_while hp hc hb) fun D σ H ⟨m, h, ρ, s, o⟩ => by
    refine ⟨fun k σ H => ∃ m h ρ, SS B.G B.cf m h ρ σ H ∧ OutS B m h H D (whileE ft s1 k ρ h), ⟨1000000, m, h, ρ, s, o⟩, ?_⟩
    rintro k σ1 H1 ⟨m1, h1, ρ1, s1', o1⟩
    cases k with
    | zero => exact o1.elim
    | succ k =>
      refine ⟨m1, h1, ρ1, s1', (OutS.bind s1' o1).mono fun v H2 ⟨w, m2, h2, r2, v2, q2, o2⟩ => ?_⟩
      subst q2
      cases w with
      | false => rw [if_neg (by decide)]; exact o2 m2 H2 σ1 (s1'.mv r2 v2) Mv.refl
      | true =>
        rw [if_pos rfl]
        refine ⟨fun σ' H' => ∃ m' h' ρ', SS B.G B.cf m' h' ρ' σ' H' ∧ OutS B m' h' H' D (whileE ft s1 k ρ' h'), fun σ' H' z => ⟨k, Nat.lt_succ_self k, z⟩, m2, h2, ρ1, s1'.mv r2 v2, ?_⟩
        exact (loop_body (k := fun ρ' h' => whileE ft s1 k ρ' h') r2 o2).mono (fun _ _ ⟨m', h', ρ', a, _, b⟩ => ⟨m', h', ρ', a, b⟩) (fun _ _ z => z) (fun _ _ z => z) (fun _ _ ⟨m', h', ρ', a, _, b⟩ => ⟨m', h', ρ', a, b⟩)
abbrev Src := Hpe → Nat → Option (Option W)
def ItS (G : GC) (m : Nat → Addr) (n : Nat) (H0 : Hp) (src : Src) (J : It) : Prop := ∀ (m' : Nat → Addr) (h' : Hpe) (H' : Hp) (i : Nat), RH G m' h' H' → (∀ k, k < n → m' k = m k) → n ≤ h'.nx → TupK H0 H' → (∀ k, k < n → ∀ ob u, H0 (m k) = some (.frz ob u) → H' (m k) = some (.frz ob u)) →
  (src h' i = some none → J.stop i H') ∧ ∀ w, src h' i = some (some w) → J.go i H' ∧ ∀ x H'', J.yld i H' x H'' → RH G m' h' H'' ∧ Mv m' h'.nx H' m' h'.nx H'' ∧ RW G m' h'.nx H'' w x
abbrev FI := Rho → Hpe → Res Src
def tI (B : Bx) (f : FI) : TI := fun σ H R => ∃ m h ρ, SS B.G B.cf m h ρ σ H ∧ Out B.G B.cl (fun m n H src J => ItS B.G m n H src J) (fun c d H' => B.W c d σ H') m h H (f ρ h) R
def SI (X : Cx) (B : Bx) (tg iter : Expr) (f : FI) : Prop := PI X tg iter (tI B f)
theorem pi_imp {iter : Expr} {t t' : TI} (h : PI X tg iter t) (i : ∀ σ H R, t' σ H R → t σ H R) : PI X tg iter t' := ⟨fun pins s σ H R I q => h.run pins s σ H R I (i σ H R q)⟩
def srcT (ws : List W) : Src := fun _ i => match nthR ws i with
  | some w => some (some w)
  | none => some none
def srcL (n : Nat) : Src := fun h i => match rdL h n with
  | some ws => match nthR ws i with
    | some w => some (some w)
    | none => some none
  | none => none
def srcR (lo : Int) (n : Nat) : Src := fun _ i => bif Nat.blt i n then some (some (.int (lo + (i : Nat)))) else some none
theorem TupK.trans {H H1 H2 : Hp} (a : TupK H H1) (b : TupK H1 H2) : TupK H H2 := fun x xs q => b x xs (a x xs q)
theorem its_tup {G : GC} {m : Nat → Addr} {n : Nat} {H : Hp} {a : Addr} {xs : List V} {ws : List W} (q : SqT G.K H a xs) (r : RWs G m n H ws xs) : ItS G m n H (srcT ws) (Itt G.K a) := by
  intro m' h' H' i rh old le tk kf
  have q' := tk.seq q
  have r' := r.mono old le tk
  refine ⟨fun e => ?_, fun w e => ?_⟩
  · simp only [srcT, nthR_eq] at e
    split at e
    · cases e
    · rename_i z
      exact ⟨xs, q', by rw [← r.len]; exact List.getElem?_eq_none_iff.mp z⟩
  · simp only [srcT, nthR_eq] at e
    split at e
    · rename_i u z
      cases e
      obtain ⟨v, e1, rv⟩ := r'.get z
      refine ⟨⟨xs, v, q', e1⟩, fun x H'' ⟨e2, y⟩ => ?_⟩
      subst e2
      have := y xs q'
      rw [e1] at this; cases this
      exact ⟨rh, Mv.refl, rv⟩
    · cases e
theorem its_lst {G : GC} {m : Nat → Addr} {n i : Nat} {H : Hp} (hi : i < n) : ItS G m n H (srcL i) (Itl G.K (m i)) := by
  intro m' h' H' j rh old le tk kf
  refine ⟨fun e => ?_, fun w e => ?_⟩
  · simp only [srcL, nthR_eq] at e
    split at e
    · rename_i ws ew
      obtain ⟨xs, sq, q⟩ := rh.rd (Nat.lt_of_lt_of_le hi le) ew
      rw [old i hi] at sq
      split at e
      · cases e
      · rename_i z
        exact ⟨xs, sq, by rw [← q.len]; exact List.getElem?_eq_none_iff.mp z⟩
    · cases e
  · simp only [srcL, nthR_eq] at e
    split at e
    · rename_i ws ew
      obtain ⟨xs, sq, q⟩ := rh.rd (Nat.lt_of_lt_of_le hi le) ew
      rw [old i hi] at sq
      split at e
      · rename_i u z
        cases e
        obtain ⟨v, e1, rv⟩ := q.get z
        refine ⟨⟨xs, v, sq, e1⟩, fun x H'' ⟨e2, y⟩ => ?_⟩
        subst e2
        have := y xs sq
        rw [e1] at this; cases this
        exact ⟨rh, Mv.refl, rv⟩
      · cases e
    · cases e
theorem its_rng {G : GC} {m : Nat → Addr} {n : Nat} {H : Hp} (lo : Int) (k : Nat) : ItS G m n H (srcR lo k) (Itr lo k) := by
  intro m' h' H' j rh old le tk kf
  refine ⟨fun e => ?_, fun w e => ?_⟩
  · simp only [srcR] at e
    cases c : Nat.blt j k with
    | true => rw [c] at e; cases e
    | false =>
      have : ¬ j < k := fun z => by
        have : Nat.blt j k = true := Nat.ble_eq_true_of_le z
        rw [c] at this; cases this
      exact Nat.not_lt.mp this
  · simp only [srcR] at e
    cases c : Nat.blt j k with
    | false => rw [c] at e; cases e
    | true =>
      rw [c] at e
      cases e
      exact ⟨Nat.le_of_ble_eq_true c, fun x H'' ⟨e1, e2⟩ => by subst e1; subst e2; exact ⟨rh, Mv.refl, .int _⟩⟩
def cR (i : Int) : Bool := decide (-1000000 ≤ i) && decide (i ≤ 1000000)
def iR1 (fs : FA) : FI := fun ρ h => (fs ρ h).bind fun ws h1 => match ws with
  | [.int j] => bif cR j then .ok (srcR 0 j.toNat) h1 else .no
  | _ => .no
def iR2 (fs : FA) : FI := fun ρ h => (fs ρ h).bind fun ws h1 => match ws with
  | [.int i, .int j] => bif cR i && cR j then .ok (srcR i (j - i).toNat) h1 else .no
  | _ => .no
theorem cR_ok {i : Int} (h : cR i = true) : -(2 ^ 62) ≤ i ∧ i < 2 ^ 62 := by
  simp only [cR, Bool.and_eq_true, decide_eq_true_eq] at h
  omega
theorem si_r1 {q : Pos} (hg : Gl X "range") (hm : X.mg "range" = none) (ha : SA X B [a] fs) (hs : starEach [a] X.env = [(false, eval a X.env)]) : SI X B tg (.Call (.Name "range" p) [a] [] q) (iR1 fs) :=
  pi_imp (pi_range1 hg hm ha hs) fun σ H R ⟨m, h, ρ, s, o⟩ => ⟨m, h, ρ, s, (Out.bind s.rh o).mono fun vs H1 ⟨ws, m1, h1, r1, v1, q1, o1⟩ => by
    match ws, o1 with
    | [.int j], o1 =>
      obtain ⟨v, rfl, r⟩ := rws_one q1
      obtain rfl := rw_int r
      simp only at o1
      cases c : cR j with
      | false => rw [c] at o1; exact o1.elim
      | true => rw [c] at o1; exact ⟨j, rfl, (cR_ok c).1, (cR_ok c).2, o1 m1 H1 _ r1 Mv.refl (its_rng 0 _)⟩⟩
theorem si_r2 {q : Pos} (hg : Gl X "range") (hm : X.mg "range" = none) (ha : SA X B [a, b] fs) (hs : starEach [a, b] X.env = [(false, eval a X.env), (false, eval b X.env)]) (hs2 : starEach [b] X.env = [(false, eval b X.env)]) : SI X B tg (.Call (.Name "range" p) [a, b] [] q) (iR2 fs) :=
  pi_imp (pi_range2 hg hm ha hs hs2) fun σ H R ⟨m, h, ρ, s, o⟩ => ⟨m, h, ρ, s, (Out.bind s.rh o).mono fun vs H1 ⟨ws, m1, h1, r1, v1, q1, o1⟩ => by
    match ws, o1 with
    | [.int i, .int j], o1 =>
      obtain ⟨v, x, rfl, ra, rb⟩ := rws_two q1
      obtain rfl := rw_int ra
      obtain rfl := rw_int rb
      simp only at o1
      cases c : cR i && cR j with
      | false => rw [c] at o1; exact o1.elim
      | true =>
        rw [c] at o1
        have c' := (Bool.and_eq_true _ _).mp c
        exact ⟨i, j, rfl, ⟨(cR_ok c'.1).1, (cR_ok c'.1).2, (cR_ok c'.2).1, (cR_ok c'.2).2⟩, o1 m1 H1 _ r1 Mv.refl (its_rng i _)⟩⟩
def forE (src : Src) (g : FG) (b : FS) : Nat → Nat → FS
  | 0, _, _, _ => .no
  | k + 1, i, ρ, h => match src h i with
    | none => .no
    | some none => .nx ρ h
    | some (some w) => match (match g w ρ h with
        | .nx ρ' h' => b ρ' h'
        | .ex x ρ' h' => .ex x ρ' h'
        | _ => .no) with
      | .nx ρ' h' => forE src g b k (i + 1) ρ' h'
      | .ct ρ' h' => forE src g b k (i + 1) ρ' h'
      | .bk ρ' h' => .nx ρ' h'
      | .rt w h' => .rt w h'
      | .ex x ρ' h' => .ex x ρ' h'
      | .no => .no
def sFor (fi : FI) (g : FG) (b : FS) : FS := fun ρ h => bindS (fi ρ h) ρ fun src h1 => forE src g b 1000000 0 ρ h1
theorem for_tr {fi : FI} : ∀ D σ H, tS B (sFor fi g s1) D σ H → tFor (tI B fi) (tG B g us) (tS B s1) D σ H :=
  fun D σ H ⟨m, h, ρ, s, o⟩ => ⟨m, h, ρ, s, (OutS.bind s o).mono fun J H1 ⟨src, m1, h1, r1, v1, its, o1⟩ => by
    refine ⟨fun i k σ' H' => ∃ m' h' ρ', SS B.G B.cf m' h' ρ' σ' H' ∧ Mv m1 h1.nx H1 m' h'.nx H' ∧ OutS B m' h' H' D (forE src g s1 k i ρ' h'), ⟨1000000, m1, h1, ρ, s.mv r1 v1, Mv.refl, o1⟩, ?_⟩
    rintro i k σ2 H2 ⟨m2, h2, ρ2, s2', v2, o2⟩
    cases k with
    | zero => exact o2.elim
    | succ k =>
      obtain ⟨i1, i2⟩ := its m2 h2 H2 i s2'.rh v2.old v2.le (v2.tupk r1) v2.kf
      simp only [forE] at o2
      cases c : src h2 i with
      | none => rw [c] at o2; exact o2.elim
      | some c' =>
        rw [c] at o2
        cases c' with
        | none => exact .inl ⟨i1 c, o2 m2 H2 σ2 s2' Mv.refl⟩
        | some w =>
          obtain ⟨go, yl⟩ := i2 w c
          refine .inr ⟨go, fun σ' H' => ∃ m' h' ρ', SS B.G B.cf m' h' ρ' σ' H' ∧ Mv m1 h1.nx H1 m' h'.nx H' ∧ OutS B m' h' H' D (forE src g s1 k (i + 1) ρ' h'), fun σ' H' z => ⟨k, Nat.lt_succ_self k, z⟩, fun x H3 y => ?_⟩
          obtain ⟨r3, v3, q3⟩ := yl x H3 y
          have s3 := s2'.mv r3 v3
          have o3 := OutS.shift s2'.rh r3 v3 o2
          refine ⟨m2, h2, ρ2, w, s3, q3, ?_⟩
          have t23 : Mv m1 h1.nx H1 m2 h2.nx H3 := v2.trans (s2'.rh.mv_ne v2) v3
          cases q : g w ρ2 h2 with
          | nx ρ4 h4 =>
            simp only [q] at o3
            intro m4 H4 σ4 s4 v4 _
            have t4 := t23.trans (r3.mv_ne t23) v4
            refine ⟨m4, h4, ρ4, s4, ?_⟩
            refine (loop_body (k := fun ρ' h' => forE src g s1 k (i + 1) ρ' h') s4.rh (OutS.shift r3 s4.rh v4 o3)).mono (fun σ5 H5 ⟨m5, h5, ρ5, s5, v5, o5⟩ => ⟨m5, h5, ρ5, s5, t4.trans (s4.rh.mv_ne t4) v5, o5⟩) (fun _ _ z => z) (fun _ _ z => z) (fun σ5 H5 ⟨m5, h5, ρ5, s5, v5, o5⟩ => ⟨m5, h5, ρ5, s5, t4.trans (s4.rh.mv_ne t4) v5, o5⟩)
          | ex e ρ4 h4 => simp only [q] at o3; exact o3
          | no => simp only [q] at o3; exact o3
          | rt _ _ => simp only [q] at o3; exact o3.elim
          | bk _ _ => simp only [q] at o3; exact o3.elim
          | ct _ _ => simp only [q] at o3; exact o3.elim⟩
theorem ss_for {iter : Expr} {x : List Stmt} {fi : FI} (hp : PassesOwn (model X.prog X.w) X.A X.env X.xe) (hc : X.calm = true) (hi : SI X B tg iter fi) (hg : SG X B tg g us) (hb : SSs X B x s1) (hs : ∀ x, foldedSetIterable iter X.env x = pure x) :
    SSt X B (.For tg iter x [] pos) (sFor fi g s1) := ps_imp (ps_for hp hc hi hg hb hs) for_tr
end
end EV
namespace EV
open PySem PySem.Spec PyProof.Rows L2
def spE (G : GC) (cl : Cls) (n : Nat) (g : List W → Hpe → Res W) : Sp := fun vs H Q E => ∃ m h ws, RH G m h H ∧ RWs G m h.nx H ws vs ∧ ws.length = n ∧ Out G cl (RW G) (fun c d H' => E c d H') m h H (g ws h) Q
structure FdOk (fd : FuncData) (t : CTx) (cl : List (Str × Addr)) (c : Addr) : Prop where
  qual : fd.qualname = t.qual
  scope : fd.scope = t.scope
  glob : fd.globals = mainGlobals
  clo : fd.closure = cl
  body : fd.body = t.body
  code : fd.code = .ref c
  blt : fd.builtins = builtinsNs
  bind : ∀ us : List Value, us.length = t.ps.length → bindArgs fd ⟨us, []⟩ = pure (t.ps.zip us)
def ClAt (G : GC) (t : CTx) (s : Shared) (H : Hp) (fs : List Addr) (f : Addr) (vs : List V) : Prop :=
  ∃ cl c o fd P pos ps, s.heap.get? f = some o ∧ H f = none ∧ f ∉ fs ∧ o.data = .func fd ∧ FdOk fd t cl c ∧ P ∈ G.ltabs ∧ H P = some (.tbl ps) ∧ codeAmong pos ps.toList = some (.ref c) ∧ G.nm pos.line pos.col = t.qual ∧
    NdefX.CellsAt cl t.fr (vs.map some) s.heap H ∧ ∀ y a, cl.lookup y = some a → a ∉ fs
def CfAt (G : GC) (s : Shared) (H : Hp) (fs : List Addr) : CF := fun k f vs => ∃ t, G.tx k = some t ∧ ClAt G t s H fs f vs
structure FnE (P : Program) (w : World) (K : PySem.W.Frag) (mg : Str → Option Value) (base : Heap) (k : Nat) (f : Addr) (fd : FuncData) (ps : List Str) (G : GC) (cl : Cls) (g : List W → Hpe → Res W) : Prop where
  run : ∀ (A : Around) (outer : List PySem.Env) (s : Shared) (H : Hp) (args : Args) (us : List Value) (vs : List V) (Q : VK) (E : XK), Room k A → Env0 P w K mg base A outer s H → BindsTo s fd args (ps.zip us) → Vals vs us →
    (∃ m h ws, RH G m h H ∧ RCs G (CfAt G s H (frs outer)) m h.nx H ws vs ∧ ws.length = ps.length ∧ Out G cl (RW G) (fun c d H' => E c d H') m h H (g ws h) Q) →
    codeAny (model P w) A (.call (.ref f) args) (CR (L2.CX P w) outer P w H s Q E) s
theorem FnE.ok {P : Program} {w : World} {K : PySem.W.Frag} {mg : Str → Option Value} {base : Heap} {k : Nat} {f : Addr} {fd : FuncData} {ps : List Str} {G : GC} {cl : Cls} {g : List W → Hpe → Res W} (F : FnE P w K mg base k f fd ps G cl g) : FnOk P w K mg base (L2.CX P w) k f fd ps (spE G cl ps.length g) :=
  ⟨fun vs H Q E ⟨m, h, ws, _, r, e, _⟩ => by rw [← r.len, e], fun A outer s H args us vs Q E hr e0 hb r ⟨m, h, ws, rh, rs, e, o⟩ => F.run A outer s H args us vs Q E hr e0 hb r ⟨m, h, ws, rh, .of rs, e, o⟩⟩
theorem FnE.mono {P : Program} {w : World} {K : PySem.W.Frag} {mg : Str → Option Value} {base : Heap} {j k : Nat} {f : Addr} {fd : FuncData} {ps : List Str} {G : GC} {cl : Cls} {g : List W → Hpe → Res W} (F : FnE P w K mg base j f fd ps G cl g) (h : j ≤ k) : FnE P w K mg base k f fd ps G cl g :=
  ⟨fun A outer s H args us vs Q E hr => F.run A outer s H args us vs Q E (hr.mono h)⟩
structure DfE (P : Program) (w : World) (K : PySem.W.Frag) (mg : Str → Option Value) (base : Heap) (G : GC) (cl : Cls) (x : Str) (ps : List Str) (k : Nat) (g : List W → Hpe → Res W) : Prop where
  ex : ∃ f fd, FnE P w K mg base k f fd ps G cl g ∧ mg x = some (.ref f) ∧ PySem.W.keepIn K (.ref f) = true ∧ Binds K fd ps []
def runB (n : Nat) (f : FS) (ws : List W) (h : Hpe) : Res W := match f (ws.map some ++ List.replicate (n - ws.length) none) h with
  | .nx _ h' => .ok .non h'
  | .rt w h' => .ok w h'
  | .ex x _ h' => .ex x h'
  | _ => .no
theorem ss_start {G : GC} {cf : CF} {m : Nat → Addr} {h : Hpe} {H : Hp} {ws : List W} {vs : List V} (rh : RH G m h H) (r : RCs G cf m h.nx H ws vs) (n : Nat) : SS G cf m h (ws.map some ++ List.replicate (n - ws.length) none) (vs.map some ++ List.replicate (n - vs.length) none) H := by
  refine ⟨rh, by simp [r.len], fun i w e => ?_⟩
  have hl := r.len
  by_cases c : i < ws.length
  · rw [List.getElem?_append_left (by rw [List.length_map]; exact c), List.getElem?_map] at e
    cases q : ws[i]? with
    | none => rw [q] at e; cases e
    | some u =>
      rw [q] at e
      cases e
      obtain ⟨v, e1, rv⟩ := r.get q
      exact ⟨v, by rw [List.getElem?_append_left (by rw [List.length_map]; omega), List.getElem?_map, e1]; rfl, rv⟩
  · rw [List.getElem?_append_right (by rw [List.length_map]; omega), List.getElem?_replicate] at e
    split at e <;> cases e
theorem run_end {G : GC} {cl : Cls} {cf : CF} {E : XK} {Q : VK} {m : Nat → Addr} {h : Hpe} {H : Hp} {n : Nat} {fs : FS} {ws : List W} (o : Out G cl (RW G) (fun c d H' => E c d H') m h H (runB n fs ws h) Q) :
    OutS ⟨G, cl, fun c d _ H' => E c d H', cf⟩ m h H { nx := fun _ H' => Q .non H', rt := Q } (fs (ws.map some ++ List.replicate (n - ws.length) none) h) := by
  simp only [runB] at o
  cases q : fs (ws.map some ++ List.replicate (n - ws.length) none) h with
  | nx ρ' h' => simp only [q] at o; exact fun m' H' σ' a b => o m' H' .non a.rh b .non
  | rt w' h' => simp only [q] at o; exact o
  | ex x ρ' h' => simp only [q] at o; exact fun m' H' σ' c d a b e => o m' H' c d a.rh b e
  | no => simp only [q] at o; exact o
  | bk _ _ => simp only [q] at o; exact o.elim
  | ct _ _ => simp only [q] at o; exact o.elim
theorem ok_E {P : Program} {w : World} {K : PySem.W.Frag} {mg : Str → Option Value} {base : Heap} {G : GC} {cl : Cls} {x qual : Str} {st : Stmt} {f : Addr} {fd : FuncData} {N ps : List Str} {k : Nat} {fs : FS} (F : Fun K x qual st f fd) (S : FnScope N ps (defScope st))
    (hbody : ∀ (cdv : Value) (A : Around) (outer : List PySem.Env) (s : Shared) (H : Hp) (E : XK), Room k (A.deeper (envOfC qual (defScope st) s.heap.objs.size f cdv)) →
      SSs (cxOf (L2.CX P w) P w K mg base N qual (defScope st) f cdv A outer s H E) ⟨G, cl, fun c d _ H' => E c d H', CfAt G s H (frs outer)⟩ (defBody st) fs) : FnE P w K mg base (k + 1) f fd ps G cl (runB N.length fs) := by
  obtain ⟨oc, od, kV, doc, pm, an, cdv, ct, osl, rfl, lk, hcd⟩ := F.ex
  refine ⟨fun A outer s H args us vs Q E hr e0 hb r ⟨m, h, ws, rh, rs, e, o⟩ => ?_⟩
  exact LamX.run_ofS lk hcd S hr e0 hb r (by rw [← rs.len, e]) fun hr' => ⟨_, hbody cdv A outer s H E hr', m, h, _, ss_start rh rs N.length, run_end o⟩
section
variable {X : Cx} {B : Bx} {a b c e tg elt iter o : Expr} {es tgs ifs : List Expr} {fa fb fc f fe : FE} {ft : FT} {fs : FA} {fi : FI} {g : FG} {pos p p2 : Pos} {j : Nat} {x : Str} {us vs : List Nat}
def eCl (n : Nat) (g : List W → Hpe → Res W) (fs : FA) : FE := fun ρ h => (fs ρ h).bind fun ws h1 => bif Nat.beq ws.length n then g ws h1 else .no
theorem se_call {ps : List Str} {k n : Nat} {g : List W → Hpe → Res W} (D : DfE X.prog X.w X.K X.mg X.base B.G B.cl x ps k g) (tk : Takes X B.W) (hr : Room k X.A) (hg : Gl X x) (ha : SA X B (e :: es) fs) (hdb : (x == ("__debug__" : Str)) = false)
    (he : starEach (e :: es) X.env = (false, eval e X.env) :: starEach es X.env) (hpl : (backTo pos (starEach es X.env)).any (·.1) = false) (hn : ps.length = n) : SE X B (.Call (.Name x p) (e :: es) [] pos) (eCl n g fs) := by
  subst hn
  obtain ⟨f, fd, F, hm, hk, hb⟩ := D.ex
  refine pe_imp (pe_callS F.ok hr hg hm hk hb (fun σ => passAt tk σ) ha hdb he hpl) fun σ H Q ⟨m, h, ρ, s, o⟩ => ⟨m, h, ρ, s, (Out.bind s.rh o).mono fun vs H1 ⟨ws, m1, h1, r1, v1, q1, o1⟩ => ?_⟩
  cases c : Nat.beq ws.length ps.length with
  | false => rw [c] at o1; exact o1.elim
  | true => rw [c] at o1; exact ⟨m1, h1, ws, r1, q1, beq_eq c, o1⟩
def eCl0 (g : List W → Hpe → Res W) : FE := fun _ h => g [] h
theorem pe_callS0 {CX : CXT} {k : Nat} {f : Addr} {fd : FuncData} {ps : List Str} {sp : Sp} {E : L2.St → XK} (F : FnOk X.prog X.w X.K X.mg X.base CX k f fd ps sp) (hr : Room k X.A) (hg : Gl X x) (hm : X.mg x = some (.ref f)) (hk : PySem.W.keepIn X.K (.ref f) = true) (hb : Binds X.K fd ps []) (hx : ∀ σ, PassesAt CX X σ (E σ))
    (hdb : (x == ("__debug__" : Str)) = false) : PE X (.Call (.Name x p) [] [] pos) (tCallS sp E tNil) := by
  refine ⟨fun pins s σ H Q I h => ?_⟩
  refine wpAny_Call_Name_kw (ld_glob I hg hm ?_ hdb)
  exact PySem.W.callWith_K0 I.kIn hk (run_fnS (us := []) F hr hb (hx σ) I .nil h)
theorem se_call0 {k : Nat} {g : List W → Hpe → Res W} (D : DfE X.prog X.w X.K X.mg X.base B.G B.cl x [] k g) (tk : Takes X B.W) (hr : Room k X.A) (hg : Gl X x) (hdb : (x == ("__debug__" : Str)) = false) : SE X B (.Call (.Name x p) [] [] pos) (eCl0 g) := by
  obtain ⟨f, fd, F, hm, hk, hb⟩ := D.ex
  exact pe_imp (pe_callS0 F.ok hr hg hm hk hb (fun σ => passAt tk σ) hdb) fun σ H Q ⟨m, h, ρ, s, o⟩ => ⟨m, h, [], s.rh, .nil, rfl, o⟩
def ClS (G : GC) (r : List V → Hp → VK → Prop) (g : List W → Hpe → Res W) : Prop := ∀ (cl : Cls) (Wx : Value → Option Addr → Hp → Prop) (m : Nat → Addr) (h : Hpe) (H : Hp) (ws : List W) (vs : List V) (Q : VK), RH G m h H → RWs G m h.nx H ws vs →
  Out G cl (RW G) Wx m h H (g ws h) Q → r vs H Q
def eBl (g : List W → Hpe → Res W) (fs : FA) : FE := fun ρ h => (fs ρ h).bind g
theorem bl_ok {r : List V → Hp → VK → Prop} {g : List W → Hpe → Res W} (hop : ClS B.G r g) : ∀ σ H Q, tE B.G B.cf B.cl B.W (eBl g fs) σ H Q → tCB r (tA B.G B.cf B.cl B.W fs) σ H Q :=
  fun σ H Q ⟨m, h, ρ, s, o⟩ => ⟨m, h, ρ, s, (Out.bind s.rh o).mono fun vs H1 ⟨ws, m1, h1, r1, v1, q1, o1⟩ => hop B.cl _ m1 h1 H1 ws vs Q r1 q1 o1⟩
theorem se_bl' {id : String} {r : List V → Hp → VK → Prop} {g : List W → Hpe → Res W} (hc : CallR X (.builtin id) r) (hop : ClS B.G r g) (hg : Gl X x) (hm : X.mg x = none) (hv : bootBuiltins x = some (.builtin id)) (ha : SA X B (e :: es) fs)
    (h1 : x ≠ "__name__") (h2 : (x == ("__debug__" : Str)) = false) (h3 : starEach (e :: es) X.env = (false, eval e X.env) :: starEach es X.env) (h4 : (backTo pos (starEach es X.env)).any (·.1) = false) :
    SE X B (.Call (.Name x p) (e :: es) [] pos) (eBl g fs) := pe_imp (pe_callB hc hg hm hv ha h1 h2 h3 h4) (bl_ok hop)
theorem se_ty {T : String} {r : List V → Hp → VK → Prop} {g : List W → Hpe → Res W} (hc : CallR X (.type T) r) (hop : ClS B.G r g) (hg : Gl X x) (hm : X.mg x = none) (hv : bootBuiltins x = some (.type T)) (ha : SA X B (e :: es) fs)
    (h1 : x ≠ "__name__") (h2 : (x == ("__debug__" : Str)) = false) (h3 : starEach (e :: es) X.env = (false, eval e X.env) :: starEach es X.env) (h4 : (backTo pos (starEach es X.env)).any (·.1) = false) :
    SE X B (.Call (.Name x p) (e :: es) [] pos) (eBl g fs) := pe_imp (pe_callTy hc hg hm hv ha h1 h2 h3 h4) (bl_ok hop)
def rdS : W → Hpe → Option (List W)
  | .tup ws, _ => some ws
  | .ref n, h => rdL h n
  | _, _ => none
theorem rdS_ok {G : GC} {m : Nat → Addr} {h : Hpe} {H : Hp} {w : W} {v : V} {ws : List W} (rh : RH G m h H) (r : RW G m h.nx H w v) (e : rdS w h = some ws) : ∃ p xs, v = .ref p ∧ (SqL G.K H p xs ∨ SqT G.K H p xs) ∧ RWs G m h.nx H ws xs := by
  cases w <;> try (cases e; done)
  · cases e
    obtain ⟨a, xs, rfl, s, q⟩ := rw_tup r
    exact ⟨a, xs, rfl, .inr s, q⟩
  · obtain ⟨rfl, hn⟩ := rw_ref r
    obtain ⟨xs, s, q⟩ := rh.rd hn e
    exact ⟨_, xs, rfl, .inl s, q⟩
def bLen : List W → Hpe → Res W
  | [w], h => match rdS w h with
    | some ws => .ok (.int ws.length) h
    | none => .no
  | _, _ => .no
theorem cs_len {G : GC} : ClS G (fun xs H Q => ∃ p ys, xs = [V.ref p] ∧ (SqL G.K H p ys ∨ SqT G.K H p ys) ∧ Q (V.int ↑ys.length) H) bLen := by
  intro cl Wx m h H ws vs Q rh r o
  match ws, o with
  | [w], o =>
    obtain ⟨v, rfl, rv⟩ := rws_one r
    simp only [bLen] at o
    split at o
    · rename_i ws e
      obtain ⟨p, xs, rfl, s, q⟩ := rdS_ok rh rv e
      exact ⟨p, xs, rfl, s, o m H _ rh Mv.refl (by rw [q.len]; exact .int _)⟩
    · exact o.elim
def bAbs : List W → Hpe → Res W
  | [.int i], h => .ok (.int (if i < 0 then -i else i)) h
  | _, _ => .no
theorem cs_abs {G : GC} : ClS G (fun xs H Q => ∃ i, xs = [V.int i] ∧ Q (V.int (if i < 0 then -i else i)) H) bAbs := by
  intro cl Wx m h H ws vs Q rh r o
  match ws, o with
  | [.int i], o =>
    obtain ⟨v, rfl, rv⟩ := rws_one r
    obtain rfl := rw_int rv
    exact ⟨i, rfl, o m H _ rh Mv.refl (.int _)⟩
def bInt : List W → Hpe → Res W
  | [.int i], h => .ok (.int i) h
  | [.bl b], h => .ok (.int (if b = true then 1 else 0)) h
  | _, _ => .no
theorem cs_int {G : GC} : ClS G (fun xs H Q => (∃ i, xs = [V.int i] ∧ Q (V.int i) H) ∨ ∃ k, xs = [V.bl k] ∧ Q (V.int (if k = true then 1 else 0)) H) bInt := by
  intro cl Wx m h H ws vs Q rh r o
  match ws, o with
  | [.int i], o =>
    obtain ⟨v, rfl, rv⟩ := rws_one r
    obtain rfl := rw_int rv
    exact .inl ⟨i, rfl, o m H _ rh Mv.refl (.int _)⟩
  | [.bl b], o =>
    obtain ⟨v, rfl, rv⟩ := rws_one r
    obtain rfl := asB_ok rv
    exact .inr ⟨b, rfl, o m H _ rh Mv.refl (.int _)⟩
def bTup : List W → Hpe → Res W
  | [w], h => match rdS w h with
    | some ws => .ok (.tup ws) h
    | none => .no
  | _, _ => .no
theorem cs_tup {G : GC} : ClS G (fun xs H Q => ∃ p ys, xs = [V.ref p] ∧ ((SqL G.K H p ys ∧ ∀ (l : Addr), H l = none → Q (V.ref l) (upd H l (HO.tup ys))) ∨ SqT G.K H p ys ∧ Q (V.ref p) H)) bTup := by
  intro cl Wx m h H ws vs Q rh r o
  match ws, o with
  | [w], o =>
    obtain ⟨v, rfl, rv⟩ := rws_one r
    simp only [bTup] at o
    split at o
    · rename_i ws e
      obtain ⟨p, xs, rfl, s, q⟩ := rdS_ok rh rv e
      refine ⟨p, xs, rfl, ?_⟩
      rcases s with s | s
      · exact .inl ⟨s, tup_ok rh o q⟩
      · exact .inr ⟨s, o m H _ rh Mv.refl (.tup s q)⟩
    · exact o.elim
def bLst : List W → Hpe → Res W
  | [w], h => match rdS w h with
    | some ws => h.al (.lst ws)
    | none => .no
  | _, _ => .no
theorem cs_lst {G : GC} : ClS G (fun xs H Q => ∃ p ys, xs = [V.ref p] ∧ (SqL G.K H p ys ∨ SqT G.K H p ys) ∧ ∀ (l : Addr), H l = none → Q (V.ref l) (upd H l (HO.lst ys))) bLst := by
  intro cl Wx m h H ws vs Q rh r o
  match ws, o with
  | [w], o =>
    obtain ⟨v, rfl, rv⟩ := rws_one r
    simp only [bLst] at o
    split at o
    · rename_i ws e
      obtain ⟨p, xs, rfl, s, q⟩ := rdS_ok rh rv e
      exact ⟨p, xs, rfl, s, al_ok rh o (.lst q)⟩
    · exact o.elim
section
variable (hK : X.K = B.G.K) (hg : Gl X x) (hm : X.mg x = none)
theorem se_abs (hm : X.mg "abs" = none) (hg : Gl X "abs") (ha : SA X B [e] fs) (h3 : starEach [e] X.env = (false, eval e X.env) :: starEach [] X.env) (h4 : (backTo pos (starEach [] X.env)).any (·.1) = false) : SE X B (.Call (.Name "abs" p) [e] [] pos) (eBl bAbs fs) :=
  se_bl' call_abs cs_abs hg hm (by decide +kernel) ha (by decide) (by decide) h3 h4
theorem se_intOf (hm : X.mg "int" = none) (hg : Gl X "int") (ha : SA X B [e] fs) (h3 : starEach [e] X.env = (false, eval e X.env) :: starEach [] X.env) (h4 : (backTo pos (starEach [] X.env)).any (·.1) = false) : SE X B (.Call (.Name "int" p) [e] [] pos) (eBl bInt fs) :=
  se_ty call_int1 cs_int hg hm (by decide +kernel) ha (by decide) (by decide) h3 h4
theorem se_tupOf (hK : X.K = B.G.K) (hm : X.mg "tuple" = none) (hg : Gl X "tuple") (ha : SA X B [e] fs) (h3 : starEach [e] X.env = (false, eval e X.env) :: starEach [] X.env) (h4 : (backTo pos (starEach [] X.env)).any (·.1) = false) : SE X B (.Call (.Name "tuple" p) [e] [] pos) (eBl bTup fs) :=
  se_ty (r := fun xs H Q => ∃ p ys, xs = [V.ref p] ∧ ((SqL B.G.K H p ys ∧ ∀ (l : Addr), H l = none → Q (V.ref l) (upd H l (HO.tup ys))) ∨ SqT B.G.K H p ys ∧ Q (V.ref p) H)) (by rw [← hK]; exact call_tuple_of) cs_tup hg hm (by decide +kernel) ha (by decide) (by decide) h3 h4
end
def wipeR (ρ : Rho) : List Nat → Rho
  | [] => ρ
  | v :: vs => (wipeR ρ vs).set v none
theorem wipeR_len (ρ : Rho) : ∀ vs : List Nat, (wipeR ρ vs).length = ρ.length
  | [] => rfl
  | v :: vs => by unfold wipeR; rw [List.length_set, wipeR_len ρ vs]
theorem SS.wipe {G : GC} {cf : CF} {m : Nat → Addr} {h : Hpe} {ρ : Rho} {σ : L2.St} {H : Hp} (s : SS G cf m h ρ σ H) : ∀ vs : List Nat, SS G cf m h (wipeR ρ vs) (L2.wipe σ vs) H
  | [] => s
  | v :: vs => by
    have i := SS.wipe s vs
    refine ⟨i.rh, by rw [wipeR_len, L2.wipe_length]; exact s.len, fun k w e => ?_⟩
    simp only [wipeR] at e
    simp only [L2.wipe]
    rw [List.getElem?_set] at e ⊢
    by_cases c : v = k
    · rw [if_pos c] at e; split at e <;> cases e
    · rw [if_neg c] at e ⊢; exact i.sl k w e
def noX {α : Type} : Res α → Res α
  | .ok a h => .ok a h
  | _ => .no
theorem Out.noX {α β : Type} {G : GC} {cl : Cls} {R : (Nat → Addr) → Nat → Hp → α → β → Prop} {Wx Wy : Value → Option Addr → Hp → Prop} {m : Nat → Addr} {h : Hpe} {H : Hp} {r : Res α} {Q : β → Hp → Prop} (o : Out G cl R Wx m h H (noX r) Q) : Out G cl R Wy m h H r Q := by
  cases r with
  | ok a h' => exact o
  | ex x h' => exact o.elim
  | no => exact o
theorem RH.adopt {G : GC} {m : Nat → Addr} {h : Hpe} {H : Hp} (r : RH G m h H) (hk : h.nx < 1099511627776) {o : Ob} {ho : HO} {p : Addr} (ro : RO G m h.nx H p o ho) (hp : H p = some ho) (hn : ∀ i, i < h.nx → m i ≠ p) (hne : ∀ q, ho ≠ LamX.CodeO p q := by intro _ z; unfold LamX.CodeO at z; cases z) :
    ∃ m', RH G m' (h.new o) H ∧ m' h.nx = p ∧ (∀ i, i < h.nx → m' i = m i) := by
  refine ⟨fun i => if i = h.nx then p else m i, ?_, if_pos rfl, fun i hi => if_neg (Nat.ne_of_lt hi)⟩
  have old : ∀ i, i < h.nx → (fun i => if i = h.nx then p else m i) i = m i := fun i hi => if_neg (Nat.ne_of_lt hi)
  refine ⟨hk, fun i j hi hj e => ?_, fun i hi => ?_, r.tab, fun P hP => (r.ltab P hP).keep (fun _ e => e) fun b q e nb => ⟨e, fun i hi => by
    have hi' : i < h.nx + 1 := hi
    by_cases c : i = h.nx
    · simp only [c, if_true]
      intro z
      subst z
      rw [hp] at e; cases e
      exact hne q rfl
    · simp only [if_neg c]; exact nb i (by omega)⟩⟩
  · have hi' : i < h.nx + 1 := hi
    have hj' : j < h.nx + 1 := hj
    by_cases c : i = h.nx
    · by_cases d : j = h.nx
      · omega
      · exact absurd (show m j = p by have e' : p = m j := by simpa [c, d] using e
                                      exact e'.symm) (hn j (by omega))
    · by_cases d : j = h.nx
      · exact absurd (show m i = p by simpa [c, d] using e) (hn i (by omega))
      · exact r.inj i j (by omega) (by omega) (by simpa [c, d] using e)
  · have hi' : i < h.nx + 1 := hi
    by_cases c : i = h.nx
    · subst c
      refine ⟨o, ho, put_same 41 h.t h.nx o (by omega), ?_, ?_⟩
      · simp only [if_true]
        exact hp
      · show RO G _ _ _ (if h.nx = h.nx then p else m h.nx) o ho
        rw [if_pos rfl]
        exact ro.mono old (Nat.le_succ _) .refl
    · obtain ⟨o', ho', q1, q2, q3⟩ := r.obj i (by omega)
      refine ⟨o', ho', (put_ne 41 h.t h.nx i o c).trans q1, ?_, ?_⟩
      · simp only [if_neg c]
        exact q2
      · show RO G _ _ _ (if i = h.nx then p else m i) o' ho'
        rw [if_neg c]
        exact q3.mono old (Nat.le_succ _) .refl
def lcE (src : Src) (g : FG) (t : FT) (fe : FE) (ρ : Rho) : Nat → Nat → List W → Hpe → Res W
  | 0, _, _, _ => .no
  | k + 1, i, acc, h => match src h i with
    | none => .no
    | some none => h.al (.lst acc.reverse)
    | some (some w) => match g w ρ h with
      | .nx ρ' h1 => match t ρ' h1 with
        | .ok b h2 => bif b then (match fe ρ' h2 with
            | .ok y h3 => bif line i then lcE src g t fe ρ k (i + 1) (y :: acc) h3 else .no
            | _ => .no) else lcE src g t fe ρ k (i + 1) acc h2
        | _ => .no
      | _ => .no
def eLc (fi : FI) (g : FG) (t : FT) (fe : FE) (vs : List Nat) : FE := fun ρ h => (fi ρ h).bind fun src h1 => lcE src g t fe (wipeR ρ vs) 1000000 0 [] h1
def tYs : FT := fun _ h => .ok true h
abbrev Bx.nox (B : Bx) : Bx := ⟨B.G, B.cl, fun _ _ _ _ => False, B.cf⟩
theorem al_len {G : GC} {cl : Cls} {Wx : Value → Option Addr → Hp → Prop} {m : Nat → Addr} {h h' : Hpe} {H : Hp} {o : Ob} {Q : VK} (out : Out G cl (RW G) Wx m h H (h'.al o) Q) : h'.nx < 1099511627776 ∧ h'.al o = .ok (.ref h'.nx) (h'.new o) := by
  unfold Hpe.al at out ⊢
  cases c : Nat.blt h'.nx 1099511627776 with
  | false => rw [c] at out; exact out.elim
  | true => exact ⟨Nat.le_of_ble_eq_true c, rfl⟩
theorem lc_ok {σ : L2.St} {H : Hp} {Q : VK} (hvs : ∀ i ∈ us, i ∈ vs) (i0 : tE B.G B.cf B.cl B.W (eLc fi g ft fe vs) σ H Q) : tLc (tI B fi) (tG B.nox g us) (tT B.nox.G B.nox.cf B.nox.cl B.nox.W ft) (tE B.nox.G B.nox.cf B.nox.cl B.nox.W fe) vs σ H Q := by
  obtain ⟨m, h, ρ, s, o⟩ := i0
  refine ⟨m, h, ρ, s, (Out.bind s.rh o).mono fun J H1 ⟨src, m1, h1, r1, v1, its, o1⟩ D hD => ?_⟩
  obtain ⟨r1D, v1D⟩ := r1.tupNew (ho := .lst []) hD
  have nown : ∀ i, i < h1.nx → m1 i ≠ D := fun i hi z => r1.ne_none hi (by rw [z]; exact hD)
  have s1 := s.mv r1 v1
  -- the words at turn i
  refine ⟨fun i k H' => ∃ m' h' acc ys, RH B.G m' h' H' ∧ Mv m1 h1.nx H1 m' h'.nx H' ∧ RWs B.G m' h'.nx H' acc.reverse ys ∧ acc.length ≤ i ∧ H' D = some (.lst ys) ∧ (∀ j, j < h'.nx → m' j ≠ D) ∧
    Out B.G B.cl (RW B.G) (fun c d H2 => B.W c d σ H2) m1 h1 H1 (lcE src g ft fe (wipeR ρ vs) k i acc h') Q, ⟨1000000, m1, h1, [], [], r1D, v1D, .nil, Nat.zero_le _, upd_same, nown, o1⟩, ?_⟩
  rintro i k H' ⟨m2, h2, acc, ys, r2, v2, q2, hl, e2, n2, o2⟩
  cases k with
  | zero => exact o2.elim
  | succ k =>
    obtain ⟨i1, i2⟩ := its m2 h2 H' i r2 v2.old v2.le (v2.tupk r1) v2.kf
    simp only [lcE] at o2
    cases c : src h2 i with
    | none => rw [c] at o2; exact o2.elim
    | some c' =>
      rw [c] at o2
      cases c' with
      | none =>
        have o2 : Out B.G B.cl (RW B.G) (fun c d H2 => B.W c d σ H2) m1 h1 H1 (h2.al (.lst acc.reverse)) Q := o2
        obtain ⟨lt, e⟩ := al_len o2
        rw [e] at o2
        obtain ⟨m3, r3, e3, old3⟩ := r2.adopt lt (.lst q2) e2 n2
        refine .inl ⟨i1 c, ?_⟩
        rw [← e3]
        refine o2 m3 H' _ r3 ⟨Nat.le_trans v2.le (Nat.le_succ _), fun j hj => (old3 j (Nat.lt_of_lt_of_le hj v2.le)).trans (v2.old j hj), fun j a b => ?_, v2.kp, v2.kf⟩ (.ref _ (Nat.lt_succ_self _))
        have b' : j < h2.nx + 1 := b
        by_cases cj : j = h2.nx
        · rw [cj, e3]; exact hD
        · rw [old3 j (by omega)]; exact v2.new j a (by omega)
      | some w =>
        obtain ⟨go, yl⟩ := i2 w c
        refine .inr ⟨go, fun H3 => ∃ m' h' acc ys, RH B.G m' h' H3 ∧ Mv m1 h1.nx H1 m' h'.nx H3 ∧ RWs B.G m' h'.nx H3 acc.reverse ys ∧ acc.length ≤ i + 1 ∧ H3 D = some (.lst ys) ∧ (∀ j, j < h'.nx → m' j ≠ D) ∧
          Out B.G B.cl (RW B.G) (fun c d H2 => B.W c d σ H2) m1 h1 H1 (lcE src g ft fe (wipeR ρ vs) k (i + 1) acc h') Q, fun H3 z => ⟨k, Nat.lt_succ_self k, z⟩, fun x H3 y => ?_⟩
        obtain ⟨r3, v3, q3⟩ := yl x H3 y
        have t3 : Mv m1 h1.nx H1 m2 h2.nx H3 := v2.trans (r2.mv_ne v2) v3
        have s3 : SS B.G B.cf m2 h2 (wipeR ρ vs) (L2.wipe σ vs) H3 := ((s1.mv r2 v2).mv r3 v3).wipe vs
        -- the list stays where it is
        have keepD : ∀ {m' n' H''} {zs : List V}, (H3 D = some (.lst zs)) → Mv m2 h2.nx H3 m' n' H'' → H'' D = some (.lst zs) := fun e v => v.stay e n2 (fun _ z => by cases z)
        have e3 : H3 D = some (.lst ys) := v3.stay e2 n2 (fun _ z => by cases z)
        have nD : ∀ {m' n' H''}, Mv m2 h2.nx H3 m' n' H'' → ∀ j, j < n' → m' j ≠ D := fun v j hj z => by
          by_cases cj : j < h2.nx
          · rw [v.old j cj] at z; exact n2 j cj z
          · have := v.new j (by omega) hj
            rw [z, e3] at this; cases this
        refine ⟨m2, h2, wipeR ρ vs, w, s3, q3, ?_⟩
        cases cg : g w (wipeR ρ vs) h2 with
        | nx ρ4 h4 =>
          simp only [cg] at o2
          intro m4 H4 σ4 s4 v4 oth
          refine ⟨by rw [(oth.sub hvs).wipe, DL.wipe_wipe], m4, h4, ρ4, s4, ?_⟩
          cases ct : ft ρ4 h4 with
          | ok b h5 =>
            simp only [ct] at o2
            intro m5 H5 b' r5 v5 eb
            subst eb
            have v35 : Mv m2 h2.nx H3 m5 h5.nx H5 := v4.trans (s4.rh.mv_ne v4) v5
            have t5 : Mv m1 h1.nx H1 m5 h5.nx H5 := t3.trans (r3.mv_ne t3) v35
            have q5 : RWs B.G m5 h5.nx H5 acc.reverse ys := ((q2.mono v3.old v3.le (v3.tupk r2)).mono v35.old v35.le (v35.tupk r3))
            cases b with
            | false => rw [if_neg (by decide)]; exact ⟨m5, h5, acc, ys, r5, t5, q5, Nat.le_succ_of_le hl, keepD e3 v35, nD v35, o2⟩
            | true =>
              rw [if_pos rfl]
              have s5 : SS B.G B.cf m5 h5 ρ4 σ4 H5 := s4.mv r5 v5
              refine ⟨m5, h5, ρ4, s5, ?_⟩
              cases ce : fe ρ4 h5 with
              | ok z h6 =>
                simp only [ce, cond_true] at o2
                intro m6 H6 u r6 v6 q6
                cases cl : line i with
                | false => rw [cl] at o2; exact o2.elim
                | true =>
                  rw [cl] at o2
                  have v36 : Mv m2 h2.nx H3 m6 h6.nx H6 := v35.trans (r5.mv_ne v35) v6
                  have e6 := keepD e3 v36
                  have n6 := nD v36
                  have q6' : RWs B.G m6 h6.nx H6 acc.reverse ys := q5.mono v6.old v6.le (v6.tupk r5)
                  have hlen : ys.length < sizeLine := by
                    have h1 := q2.len
                    rw [List.length_reverse] at h1
                    have h2 : i ≤ 100000 := Nat.le_of_ble_eq_true cl
                    have h3 : (100000 : Nat) < sizeLine := by decide
                    omega
                  refine ⟨ys, e6, hlen, m6, h6, z :: acc, ys ++ [u], ?_⟩
                  -- a store at an object without a number
                  have tk : TupK H6 (upd H6 D (.lst (ys ++ [u]))) := fun a xs q => by
                    rcases q with q | ⟨ob, q⟩
                    · exact .inl (by rw [upd_ne (fun z : a = D => by rw [z, e6] at q; cases q)]; exact q)
                    · exact .inr ⟨ob, by rw [upd_ne (fun z : a = D => by rw [z, e6] at q; cases q)]; exact q⟩
                  have r7 : RH B.G m6 h6 (upd H6 D (.lst (ys ++ [u]))) := ⟨r6.sz, r6.inj, fun j hj => by
                    obtain ⟨o', ho', a1, a2, a3⟩ := r6.obj j hj
                    exact ⟨o', ho', a1, by rw [upd_ne (n6 j hj)]; exact a2, a3.mono (fun _ _ => rfl) (Nat.le_refl _) tk⟩, fun P hP => by
                    obtain ⟨ps, a1, a2⟩ := r6.tab P hP
                    exact ⟨ps, by rw [upd_ne (fun z : P = D => by rw [z, e6] at a1; cases a1)]; exact a1, a2⟩, fun P hP => (r6.ltab P hP).keep (fun ps e => by rw [upd_ne (fun z : P = D => by rw [z, e6] at e; cases e)]; exact e) fun b q e nb => ⟨by rw [upd_ne (fun z : b = D => by rw [z, e6] at e; unfold LamX.CodeO at e; cases e)]; exact e, nb⟩⟩
                  have t6 : Mv m1 h1.nx H1 m6 h6.nx H6 := t3.trans (r3.mv_ne t3) v36
                  refine ⟨r7, ⟨t6.le, t6.old, t6.new, fun b ob e hb => ?_, fun j hj ob u e => by rw [upd_ne (fun z : m1 j = D => by rw [z, hD] at e; cases e)]; exact t6.kf j hj ob u e⟩, ?_, by simp; omega, upd_same, n6, o2⟩
                  · have bD : b ≠ D := fun z => by rw [z, hD] at e; cases e
                    rw [upd_ne bD]; exact t6.kp b ob e hb
                  · rw [List.reverse_cons]
                    exact (q6'.mono (fun _ _ => rfl) (Nat.le_refl _) tk).app (.cons (q6.mono (fun _ _ => rfl) (Nat.le_refl _) tk) .nil)
              | ex _ _ => simp only [ce, cond_true] at o2; exact o2.elim
              | no => simp only [ce, cond_true] at o2; exact o2.elim
          | ex _ _ => simp only [ct] at o2; exact o2.elim
          | no => simp only [ct] at o2; exact o2.elim
        | ex _ _ _ => simp only [cg] at o2; exact o2.elim
        | no => simp only [cg] at o2; exact o2.elim
        | rt _ _ => simp only [cg] at o2; exact o2.elim
        | bk _ _ => simp only [cg] at o2; exact o2.elim
        | ct _ _ => simp only [cg] at o2; exact o2.elim
theorem pts_imp {X : Cx} {t t' : TT} (h : PTs X ifs t) (i : ∀ σ H Q, t' σ H Q → t σ H Q) : PTs X ifs t' := ⟨fun pins s σ H Q I q => h.run pins s σ H Q I (i σ H Q q)⟩
def STs (X : Cx) (B : Bx) (ifs : List Expr) (f : FT) : Prop := PTs X ifs (tT B.G B.cf B.cl B.W f)
theorem sts_nil : STs X B [] tYs := pts_imp pts_nil fun σ H Q ⟨m, h, ρ, s, o⟩ => o m H true s.rh Mv.refl rfl
theorem sts_one (h : ST X B c ft) : STs X B [c] ft := pts_one h
theorem se_lc {scope : Scope} {own : List (Str × Nat)} (hc : X.calm = true) (hN : X.N.Nodup) (hi : SI X B tg iter fi) (ok : BlkOk X.N X.env.scope scope own)
    (hg : ∀ (s : Shared) (H : Hp) (C : Addr) (cl : List (Str × Addr)) (fp : List Addr), SG (X.blk s H scope (compEnvC scope cl C X.env) fp) B.nox tg g us) (ht : ∀ (s : Shared) (H : Hp) (C : Addr) (cl : List (Str × Addr)) (fp : List Addr), STs (X.blk s H scope (compEnvC scope cl C X.env) fp) B.nox ifs ft)
    (he : ∀ (s : Shared) (H : Hp) (C : Addr) (cl : List (Str × Addr)) (fp : List Addr), SE (X.blk s H scope (compEnvC scope cl C X.env) fp) B.nox elt fe) (hus : ∀ i ∈ us, i ∈ own.map (·.2)) (hs : ∀ x, foldedSetIterable iter X.env x = pure x) :
    SE X B (.ListComp elt [⟨tg, iter, ifs, 0⟩] scope pos) (eLc fi g ft fe (own.map (·.2))) :=
  pe_imp (pe_lc hc hN hi ok hg ht he hs) fun σ H Q i => lc_ok hus i
theorem ss_lc {i : Nat} {y : Str} {py spos : Pos} {scope : Scope} {own : List (Str × Nat)} (hc : X.calm = true) (hN : X.N.Nodup) (hy : X.N[i]? = some y) (hyl : X.env.scope.names.lookup y = some .local)
    (hsw : swapsWith (.ListComp elt [⟨tg, iter, ifs, 0⟩] scope pos) (some (.Name y py)) spos.line X.env = pure true) (hi : SI X B tg iter fi) (ok : BlkOk X.N X.env.scope scope own)
    (hg : ∀ (s : Shared) (H : Hp) (C : Addr) (cl : List (Str × Addr)) (fp : List Addr), SG (X.blk s H scope (compEnvC scope cl C X.env) fp) B.nox tg g us) (ht : ∀ (s : Shared) (H : Hp) (C : Addr) (cl : List (Str × Addr)) (fp : List Addr), STs (X.blk s H scope (compEnvC scope cl C X.env) fp) B.nox ifs ft)
    (he : ∀ (s : Shared) (H : Hp) (C : Addr) (cl : List (Str × Addr)) (fp : List Addr), SE (X.blk s H scope (compEnvC scope cl C X.env) fp) B.nox elt fe) (hus : ∀ i ∈ us, i ∈ own.map (·.2)) (hs : ∀ x, foldedSetIterable iter X.env x = pure x) :
    SSt X B (.Assign [.Name y py] (.ListComp elt [⟨tg, iter, ifs, 0⟩] scope pos) spos) (sAs (eLc fi g ft fe (own.map (·.2))) (gN i)) :=
  ps_imp (ps_setLc hc hN hy hyl hsw hi ok hg ht he hs) fun D σ H ⟨m, h, ρ, s, o⟩ => lc_ok hus ⟨m, h, ρ, s, (OutS.bind s o).mono fun v H1 ⟨w, m1, h1, r1, v1, q1, o1⟩ => o1 m1 H1 _ (by first | exact (s.mv r1 v1).set q1 i | (rw [setR_eq]; exact (s.mv r1 v1).set q1 i)) Mv.refl⟩
end
end EV
namespace EV
open PySem PySem.Spec PyProof.Rows L2
section
variable {X : Cx} {B : Bx} {a b c e o tg : Expr} {es : List Expr} {fa fb fc f fo : FE} {ft : FT} {fs : FA} {pos p p2 p3 p4 tpos apos cpos : Pos} {j : Nat} {x y : Str}
def eMt (chk : W → Hpe → Bool) (g : W → List W → Hpe → Res W) (fo : FE) (fs : FA) : FE := fun ρ h => (fo ρ h).bind fun w h1 => bif chk w h1 then (fs ρ h1).bind fun ws h2 => g w ws h2 else .no
def MtS (G : GC) (T : String) (r : V → List V → Hp → VK → Prop) (chk : W → Hpe → Bool) (g : W → List W → Hpe → Res W) : Prop :=
  (∀ (m : Nat → Addr) (h : Hpe) (H : Hp) (w : W) (v : V), RH G m h H → RW G m h.nx H w v → chk w h = true → tyV G.K T v H) ∧
  ∀ (cl : Cls) (Wx : Value → Option Addr → Hp → Prop) (m : Nat → Addr) (h : Hpe) (H : Hp) (w : W) (ws : List W) (v : V) (vs : List V) (Q : VK), RH G m h H → RW G m h.nx H w v → RWs G m h.nx H ws vs → Out G cl (RW G) Wx m h H (g w ws h) Q → r v vs H Q
theorem se_mt {T id : String} {name : Str} {r : V → List V → Hp → VK → Prop} {chk : W → Hpe → Bool} {g : W → List W → Hpe → Res W} (hK : X.K = B.G.K) (pa : PlainAttrs T) (slot : Slot T name id) (hty : typeOf (.builtin id) = pure (.type "method_descriptor")) (hm : MtR X id r) (hs : MtS B.G T r chk g) (ho : SE X B o fo) (ha : SA X B (e :: es) fs)
    (hbase : attributeBase o name X.env (eval o X.env) = eval o X.env) (hfew : ((backTo cpos (starEach (e :: es) X.env)).all (fun x => !x.1) && (backToKw cpos (keywordEach [] X.env)).all (fun x => x.1.isSome)
      && decide ((e :: es).length + ([] : List Keyword).length + (if ([] : List Keyword).isEmpty then 0 else 1) < 30)) = true)
    (hline : (apos.endLine == cpos.line) = true) (hst : starEach (e :: es) X.env = (false, eval e X.env) :: starEach es X.env) (hplain : (backTo cpos (starEach es X.env)).any (·.1) = false) :
    SE X B (.Call (.Attribute o name apos) (e :: es) [] cpos) (eMt chk g fo fs) :=
  pe_imp (pe_bm pa slot hty hm ho ha hbase hfew hline hst hplain) fun σ H Q ⟨m, h, ρ, s, o⟩ => ⟨m, h, ρ, s, (Out.bind s.rh o).mono fun v H1 ⟨w, m1, h1, r1, v1, q1, o1⟩ => by
    cases c : chk w h1 with
    | false => rw [c] at o1; exact o1.elim
    | true =>
      rw [c] at o1
      refine ⟨by rw [hK]; exact hs.1 m1 h1 H1 w v r1 q1 c, m1, h1, ρ, s.mv r1 v1, (Out.bind r1 o1).mono fun vs H2 ⟨ws, m2, h2, r2, v2, q2, o2⟩ => ?_⟩
      exact hs.2 B.cl _ m2 h2 H2 w ws v vs Q r2 (q1.mono v2.old v2.le (v2.tupk r1)) q2 o2⟩
def eMt0 (chk : W → Hpe → Bool) (g : W → List W → Hpe → Res W) (fo : FE) : FE := fun ρ h => (fo ρ h).bind fun w h1 => bif chk w h1 then g w [] h1 else .no
theorem se_mt0 {T id : String} {name : Str} {r : V → List V → Hp → VK → Prop} {chk : W → Hpe → Bool} {g : W → List W → Hpe → Res W} (hK : X.K = B.G.K) (pa : PlainAttrs T) (slot : Slot T name id) (hty : typeOf (.builtin id) = pure (.type "method_descriptor")) (hm : MtR X id r) (hs : MtS B.G T r chk g) (ho : SE X B o fo)
    (hbase : attributeBase o name X.env (eval o X.env) = eval o X.env) (hline : (apos.endLine == cpos.line) = true) : SE X B (.Call (.Attribute o name apos) [] [] cpos) (eMt0 chk g fo) :=
  pe_imp (pe_bm0 pa slot hty hm ho hbase hline) fun σ H Q ⟨m, h, ρ, s, o⟩ => ⟨m, h, ρ, s, (Out.bind s.rh o).mono fun v H1 ⟨w, m1, h1, r1, v1, q1, o1⟩ => by
    cases c : chk w h1 with
    | false => rw [c] at o1; exact o1.elim
    | true =>
      rw [c] at o1
      exact ⟨by rw [hK]; exact hs.1 m1 h1 H1 w v r1 q1 c, hs.2 B.cl _ m1 h1 H1 w [] v [] Q r1 q1 .nil o1⟩⟩
def chkL : W → Hpe → Bool
  | .ref n, h => match h.get n with
    | some (.lst _) => true
    | _ => false
  | _, _ => false
theorem chkL_ok {G : GC} {m : Nat → Addr} {h : Hpe} {H : Hp} {w : W} {v : V} (rh : RH G m h H) (r : RW G m h.nx H w v) (c : chkL w h = true) : tyV G.K "list" v H := by
  cases w <;> try (cases c; done)
  rename_i n
  obtain ⟨rfl, hn⟩ := rw_ref r
  simp only [chkL] at c
  split at c
  · rename_i ws e
    obtain ⟨xs, e1, _⟩ := rh.lst hn e
    exact .inl ⟨rfl, xs, SqL.of e1⟩
  · cases c
theorem st_ok {G : GC} {cl : Cls} {Wx : Value → Option Addr → Hp → Prop} {m : Nat → Addr} {h : Hpe} {H : Hp} {n : Nat} {o : Ob} {ho : HO} {w : W} {v : V} {Q : VK} (rh : RH G m h H) (hn : n < h.nx) (out : Out G cl (RW G) Wx m h H (.ok w (h.set n o)) Q) (ro : RO G m h.nx H (m n) o ho) (rw : ∀ H', TupK H H' → RW G m h.nx H' w v) (nf : ∀ ob u, H (m n) ≠ some (.frz ob u) := by intro _ _ z; simp_all) : Q v (upd H (m n) ho) := by
  obtain ⟨r', v'⟩ := rh.store hn ro nf
  exact out m _ v r' v' (rw _ (v'.tupk rh))
def mApp : W → List W → Hpe → Res W
  | .ref n, [y], h => match h.get n with
    | some (.lst ws) => bif line ws.length then .ok .non (h.set n (.lst (ws ++ [y]))) else .no
    | _ => .no
  | _, _, _ => .no
theorem line_lt {n : Nat} (h : line n = true) : n < sizeLine := Nat.lt_of_le_of_lt (Nat.le_of_ble_eq_true h) (by decide)
theorem ms_app {G : GC} : MtS G "list" rAppend chkL mApp := by
  refine ⟨fun m h H w v rh r c => chkL_ok rh r c, fun cl Wx m h H w ws v vs Q rh r rs o => ?_⟩
  match w, ws, o with
  | .ref n, [y], o =>
    obtain ⟨rfl, hn⟩ := rw_ref r
    obtain ⟨u, rfl, ru⟩ := rws_one rs
    simp only [mApp] at o
    split at o
    · rename_i zs e
      obtain ⟨xs, e1, q⟩ := rh.lst hn e
      cases c : line zs.length with
      | false => rw [c] at o; exact o.elim
      | true => rw [c] at o; exact ⟨_, xs, u, rfl, rfl, e1, by rw [← q.len]; exact line_lt c, st_ok rh hn o (.lst (q.app (.cons ru .nil))) fun _ _ => .non⟩
    · exact o.elim
def mPop : W → List W → Hpe → Res W
  | .ref n, [], h => match h.get n with
    | some (.lst ws) => match ws[ws.length - 1]? with
      | some y => .ok y (h.set n (.lst ws.dropLast))
      | none => .no
    | _ => .no
  | _, _, _ => .no
theorem RWs.dropLast {G : GC} {m : Nat → Addr} {n : Nat} {H : Hp} {ws : List W} {vs : List V} (r : RWs G m n H ws vs) : RWs G m n H ws.dropLast vs.dropLast := by
  rw [List.dropLast_eq_take, List.dropLast_eq_take, ← r.len]
  exact r.take _
theorem ms_pop {G : GC} : MtS G "list" rPop chkL mPop := by
  refine ⟨fun m h H w v rh r c => chkL_ok rh r c, fun cl Wx m h H w ws v vs Q rh r rs o => ?_⟩
  match w, ws, o with
  | .ref n, [], o =>
    obtain ⟨rfl, hn⟩ := rw_ref r
    obtain rfl := rws_nil rs
    simp only [mPop] at o
    split at o
    · rename_i zs e
      obtain ⟨xs, e1, q⟩ := rh.lst hn e
      split at o
      · rename_i y ey
        obtain ⟨u, eu, ru⟩ := q.get ey
        exact ⟨_, xs, u, rfl, rfl, e1, by rw [← q.len]; exact eu, st_ok rh hn o (.lst q.dropLast) fun _ t => ru.mono (fun _ _ => rfl) (Nat.le_refl _) t⟩
      · exact o.elim
    · exact o.elim
def mExt : W → List W → Hpe → Res W
  | .ref n, [.tup zs], h => match h.get n with
    | some (.lst ws) => bif line (ws.length + zs.length) then .ok .non (h.set n (.lst (ws ++ zs))) else .no
    | _ => .no
  | .ref n, [.ref k], h => match h.get n, h.get k with
    | some (.lst ws), some (.lst zs) => bif line (ws.length + zs.length) then .ok .non (h.set n (.lst (ws ++ zs))) else .no
    | _, _ => .no
  | _, _, _ => .no
theorem ms_ext {G : GC} : MtS G "list" (fun x vs H Q => rExtend x vs H Q ∨ DL.rExtT G.K x vs H Q) chkL mExt := by
  refine ⟨fun m h H w v rh r c => chkL_ok rh r c, fun cl Wx m h H w ws v vs Q rh r rs o => ?_⟩
  match w, ws, o with
  | .ref n, [.tup zs], o =>
    obtain ⟨rfl, hn⟩ := rw_ref r
    obtain ⟨u, rfl, ru⟩ := rws_one rs
    obtain ⟨b, us, rfl, s, q2⟩ := rw_tup ru
    simp only [mExt] at o
    split at o
    · rename_i ws e
      obtain ⟨xs, e1, q⟩ := rh.lst hn e
      cases c : line (ws.length + zs.length) with
      | false => rw [c] at o; exact o.elim
      | true => rw [c] at o; exact .inr ⟨_, b, xs, us, rfl, rfl, e1, s, by rw [← q.len, ← q2.len]; exact line_le c, st_ok rh hn o (.lst (q.app q2)) fun _ _ => .non⟩
    · exact o.elim
  | .ref n, [.ref k], o =>
    obtain ⟨rfl, hn⟩ := rw_ref r
    obtain ⟨u, rfl, ru⟩ := rws_one rs
    obtain ⟨rfl, hk⟩ := rw_ref ru
    simp only [mExt] at o
    split at o
    · rename_i ws zs e e'
      obtain ⟨xs, e1, q⟩ := rh.lst hn e
      obtain ⟨us, e2, q2⟩ := rh.lst hk e'
      cases c : line (ws.length + zs.length) with
      | false => rw [c] at o; exact o.elim
      | true => rw [c] at o; exact .inl ⟨_, _, xs, us, rfl, rfl, e1, e2, by rw [← q.len, ← q2.len]; exact line_le c, st_ok rh hn o (.lst (q.app q2)) fun _ _ => .non⟩
    · exact o.elim
theorem mt_extE : MtR X "list.extend" (fun x vs H Q => rExtend x vs H Q ∨ DL.rExtT X.K x vs H Q) := fun pins s σ H x xs v us Q I rx rs h => by
  rcases h with h | h
  · exact mt_extend pins s σ H x xs v us Q I rx rs h
  · exact DL.mt_extT pins s σ H x xs v us Q I rx rs h
theorem mt_extK (hK : X.K = B.G.K) : MtR X "list.extend" (fun x vs H Q => rExtend x vs H Q ∨ DL.rExtT B.G.K x vs H Q) := by rw [← hK]; exact mt_extE
theorem se_ext (hK : X.K = B.G.K) (ho : SE X B o fo) (ha : SA X B (e :: es) fs) (hbase : attributeBase o "extend" X.env (eval o X.env) = eval o X.env) (hfew : ((backTo cpos (starEach (e :: es) X.env)).all (fun x => !x.1) && (backToKw cpos (keywordEach [] X.env)).all (fun x => x.1.isSome)
      && decide ((e :: es).length + ([] : List Keyword).length + (if ([] : List Keyword).isEmpty then 0 else 1) < 30)) = true)
    (hline : (apos.endLine == cpos.line) = true) (hst : starEach (e :: es) X.env = (false, eval e X.env) :: starEach es X.env) (hplain : (backTo cpos (starEach es X.env)).any (·.1) = false) :
    SE X B (.Call (.Attribute o "extend" apos) (e :: es) [] cpos) (eMt chkL mExt fo fs) := se_mt hK PySem.F.plainAttrs_list PySem.F.slot_list_extend PySem.F.type_list_extend (mt_extK hK) ms_ext ho ha hbase hfew hline hst hplain
inductive Kd where
  | int | bool | str | list | tuple
def Kd.nm : Kd → String
  | .int => "int"
  | .bool => "bool"
  | .str => "str"
  | .list => "list"
  | .tuple => "tuple"
def instW (t : Kd) (w : W) (h : Hpe) : Option Bool := match w with
  | .non => some false
  | .bl _ => some (match t with | .int => true | .bool => true | _ => false)
  | .int _ => some (match t with | .int => true | _ => false)
  | .str _ => some (match t with | .str => true | _ => false)
  | .tup _ => some (match t with | .tuple => true | _ => false)
  | .ref n => match rdL h n with
    | some _ => some (match t with | .list => true | _ => false)
    | none => none
  | .df _ => none
  | .clo _ _ => none
theorem inst_ok {G : GC} {m : Nat → Addr} {h : Hpe} {H : Hp} {w : W} {v : V} {t : Kd} {b : Bool} (rh : RH G m h H) (r : RW G m h.nx H w v) (e : instW t w h = some b) : ∃ k : String, TyX G.K H v (.type k) ∧ ∀ t b, instW t w h = some b → PySem.W.kitOne G.K (.type k) (.type (Kd.nm t)) = some b := by
  cases w with
  | non => obtain rfl := rw_non r; exact ⟨"NoneType", .base .non, fun t b e => by cases e; cases t <;> exact kit_ty (by decide +kernel)⟩
  | bl c => obtain rfl := asB_ok r; exact ⟨"bool", .base (.bl c), fun t b e => by cases e; cases t <;> exact kit_ty (by decide +kernel)⟩
  | int i => obtain rfl := rw_int r; exact ⟨"int", .base (.int i), fun t b e => by cases e; cases t <;> exact kit_ty (by decide +kernel)⟩
  | str s => obtain rfl := rw_str r; exact ⟨"str", .base (.str s), fun t b e => by cases e; cases t <;> exact kit_ty (by decide +kernel)⟩
  | tup ws =>
    obtain ⟨a, xs, rfl, s, _⟩ := rw_tup r
    refine ⟨"tuple", ?_, fun t b e => by cases e; cases t <;> exact kit_ty (by decide +kernel)⟩
    rcases s with (a | ⟨o, a⟩) | ⟨o, its, n, hk, hc, _⟩
    · exact .base (.tup a)
    · exact .fTuple a
    · exact .kTuple hk hc
  | ref n =>
    obtain ⟨rfl, hn⟩ := rw_ref r
    simp only [instW] at e ⊢
    split at e
    · rename_i ws ew
      obtain ⟨xs, s, _⟩ := rh.rd hn ew
      refine ⟨"list", ?_, fun t b e => by cases e; cases t <;> exact kit_ty (by decide +kernel)⟩
      rcases s with (a | ⟨o, a⟩) | ⟨o, its, n, hk, hc, _⟩
      · exact .base (.lst a)
      · exact .base (.frz a)
      · exact .kList hk hc
    · cases e
  | df _ => cases e
  | clo _ _ => cases e
def eIs (t : Kd) (f : FE) : FE := fun ρ h => (f ρ h).bind fun w h1 => match instW t w h1 with
  | some b => .ok (.bl b) h1
  | none => .no
theorem se_isi {t : Kd} (hK : X.K = B.G.K) (hm : X.mg "isinstance" = none) (hg : Gl X "isinstance") (he : SE X B e f) (ht : PE X (.Name x p2) (L2.tC (.ty t.nm)))
    (h3 : starEach [e, .Name x p2] X.env = (false, eval e X.env) :: starEach [.Name x p2] X.env) (h5 : starEach [Expr.Name x p2] X.env = (false, eval (.Name x p2) X.env) :: starEach [] X.env) (h4 : (backTo pos (starEach [Expr.Name x p2] X.env)).any (·.1) = false) :
    SE X B (.Call (.Name "isinstance" p) [e, .Name x p2] [] pos) (eIs t f) :=
  pe_imp (pe_callB (r := rIsi B.G.K) (by rw [← hK]; exact call_isi) hg hm (by decide +kernel) (pa_cons he (pa_cons ht pa_nil h5) h3) (by decide) (by decide) h3 h4) fun σ H Q ⟨m, h, ρ, s, o⟩ =>
    ⟨m, h, ρ, s, (Out.bind s.rh o).mono fun v H1 ⟨w, m1, h1, r1, v1, q1, o1⟩ => by
      split at o1
      · rename_i b eb
        obtain ⟨k, ty, kt⟩ := inst_ok r1 q1 eb
        exact ⟨v, .ty t.nm, _, .type t.nm, b, rfl, .ty t.nm, ty, kt t b eb, o1 m1 H1 _ r1 Mv.refl (.bl _)⟩
      · exact o1.elim⟩
def eIs2 (t t' : Kd) (f : FE) : FE := fun ρ h => (f ρ h).bind fun w h1 => match instW t w h1, instW t' w h1 with
  | some b, some b' => .ok (.bl (b || b')) h1
  | _, _ => .no
theorem se_isi2 {t t' : Kd} {kk : Nat} (hK : X.K = B.G.K) (hm : X.mg "isinstance" = none) (hg : Gl X "isinstance") (he : SE X B e f) (ht : PE X (.Name x p2) (L2.tC (.ty t.nm))) (ht' : PE X (.Name y p3) (L2.tC (.ty t'.nm)))
    (h3 : starEach [e, .Tuple [.Name x p2, .Name y p3] kk p4] X.env = (false, eval e X.env) :: starEach [.Tuple [.Name x p2, .Name y p3] kk p4] X.env)
    (h5 : starEach [Expr.Tuple [.Name x p2, .Name y p3] kk p4] X.env = (false, eval (.Tuple [.Name x p2, .Name y p3] kk p4) X.env) :: starEach [] X.env)
    (h6 : starEach [Expr.Name x p2, Expr.Name y p3] X.env = (false, eval (.Name x p2) X.env) :: starEach [Expr.Name y p3] X.env) (h7 : starEach [Expr.Name y p3] X.env = (false, eval (.Name y p3) X.env) :: starEach [] X.env)
    (h4 : (backTo pos (starEach [Expr.Tuple [.Name x p2, .Name y p3] kk p4] X.env)).any (·.1) = false) :
    SE X B (.Call (.Name "isinstance" p) [e, .Tuple [.Name x p2, .Name y p3] kk p4] [] pos) (eIs2 t t' f) :=
  pe_imp (pe_callB (r := rIsiT B.G.K) (by rw [← hK]; exact call_isiT) hg hm (by decide +kernel) (pa_cons he (pa_cons (pe_tup (pa_cons ht (pa_cons ht' pa_nil h7) h6)) pa_nil h5) h3) (by decide) (by decide) h3 h4) fun σ H Q ⟨m, h, ρ, s, o⟩ =>
    ⟨m, h, ρ, s, (Out.bind s.rh o).mono fun v H1 ⟨w, m1, h1, r1, v1, q1, o1⟩ => by
      split at o1
      · rename_i b b' eb eb'
        refine ⟨(by show 2 ≤ sizeLine; decide), fun tp hp => ?_⟩
        obtain ⟨r2, v2⟩ := r1.tupNew (ho := .tup [.ty t.nm, .ty t'.nm]) hp
        have q2 := q1.mono v2.old v2.le (v2.tupk r1)
        obtain ⟨k, ty, kt⟩ := inst_ok r2 q2 eb
        exact ⟨v, tp, _, _, [.type t.nm, .type t'.nm], _, rfl, upd_same, .cons (.ty _) (.cons (.ty _) .nil), ty, DL.kit_any2 (kt t b eb) (kt t' b' eb'), o1 m1 _ _ r2 v2 (.bl _)⟩
      · exact o1.elim⟩
def eOrT (fa fb : FE) : FE := fun ρ h => (fa ρ h).bind fun w h1 => match truW w h1 with
  | some true => .ok w h1
  | some false => fb ρ h1
  | none => .no
theorem se_orT (hK : X.K = B.G.K) {rest : List Expr} (ha : SE X B a fa) (hb : SE X B (.BoolOp .Or (b :: rest) pos) fb) : SE X B (.BoolOp .Or (a :: b :: rest) pos) (eOrT fa fb) :=
  pe_imp (pe_orT ha hb) fun σ H Q ⟨m, h, ρ, s, o⟩ => ⟨m, h, ρ, s, (Out.bind s.rh o).mono fun v H1 ⟨w, m1, h1, r1, v1, q1, o1⟩ => by
    cases c : truW w h1 with
    | none => rw [c] at o1; exact o1.elim
    | some d =>
      rw [c] at o1
      refine ⟨d, by rw [hK]; exact tru_ok r1 q1 c, ?_⟩
      cases d with
      | true => rw [if_pos rfl]; exact o1 m1 H1 _ r1 Mv.refl q1
      | false => rw [if_neg (by decide)]; exact ⟨m1, h1, ρ, s.mv r1 v1, o1⟩⟩
def bools : List W → Option (List Bool)
  | [] => some []
  | .bl b :: r => match bools r with
    | some bs => some (b :: bs)
    | none => none
  | _ :: _ => none
theorem bools_ok {G : GC} {m : Nat → Addr} {n : Nat} {H : Hp} : ∀ {ws : List W} {bs : List Bool} {vs : List V}, bools ws = some bs → RWs G m n H ws vs → vs = bs.map V.bl
  | [], bs, vs, e, r => by cases e; cases r; rfl
  | w :: ws, bs, vs, e, r => by
    cases w <;> try (cases e; done)
    simp only [bools] at e
    split at e
    · rename_i bs' e'
      cases e
      cases r with
      | cons a b => rw [asB_ok a, bools_ok e' b]; rfl
    · cases e
def bAllAny (f : List Bool → Bool) : List W → Hpe → Res W
  | [.ref n], h => match rdL h n with
    | some ws => match bools ws with
      | some bs => .ok (.bl (f bs)) h
      | none => .no
    | none => .no
  | _, _ => .no
theorem cs_allAny {G : GC} {f : List Bool → Bool} : ClS G (fun vs H Q => ∃ (a : Addr) (bs : List Bool), vs = [V.ref a] ∧ SqL G.K H a (bs.map V.bl) ∧ Q (.bl (f bs)) H) (bAllAny f) := by
  intro cl Wx m h H ws vs Q rh r o
  match ws, o with
  | [.ref n], o =>
    obtain ⟨v, rfl, rv⟩ := rws_one r
    obtain ⟨rfl, hn⟩ := rw_ref rv
    simp only [bAllAny] at o
    split at o
    · rename_i ws e
      obtain ⟨xs, s, q⟩ := rh.rd hn e
      split at o
      · rename_i bs eb
        exact ⟨_, bs, rfl, by rw [← bools_ok eb q]; exact s, o m H _ rh Mv.refl (.bl _)⟩
      · exact o.elim
    · exact o.elim
theorem se_all (hK : X.K = B.G.K) (hc : X.calm = true) (hm : X.mg "all" = none) (hg : Gl X "all") (ha : SA X B [e] fs) (h3 : starEach [e] X.env = (false, eval e X.env) :: starEach [] X.env) (h4 : (backTo pos (starEach [] X.env)).any (·.1) = false) : SE X B (.Call (.Name "all" p) [e] [] pos) (eBl (bAllAny fun bs => bs.all id) fs) :=
  se_bl' (r := rAll B.G.K) (by rw [← hK]; exact cr_all hc) cs_allAny hg hm (by decide +kernel) ha (by decide) (by decide) h3 h4
def srcZ (a b : W) : Src := fun h i => match rdS a h, rdS b h with
  | some xs, some ys => match xs[i]?, ys[i]? with
    | some x, some y => some (some (.tup [x, y]))
    | _, _ => some none
  | _, _ => none
def srcE (a : W) : Src := fun h i => match rdS a h with
  | some xs => match xs[i]? with
    | some x => some (some (.tup [.int (i : Nat), x]))
    | _ => some none
  | _ => none
def srcV (a : W) (n : Nat) : Src := fun h i => bif Nat.blt i n then (match rdS a h with
  | some xs => match xs[n - 1 - i]? with
    | some x => some (some x)
    | none => none
  | none => none) else some none
def srcET (xs : List W) : Src := fun _ i => match xs[i]? with
  | some x => some (some (.tup [.int (i : Nat), x]))
  | none => bif Nat.beq xs.length i then some none else none
theorem pair_new {G : GC} {m : Nat → Addr} {h : Hpe} {H : Hp} {T : Addr} {w1 w2 : W} {x y : V} (rh : RH G m h H) (hT : H T = none) (r1 : RW G m h.nx H w1 x) (r2 : RW G m h.nx H w2 y) :
    RH G m h (upd H T (.tup [x, y])) ∧ Mv m h.nx H m h.nx (upd H T (.tup [x, y])) ∧ RW G m h.nx (upd H T (.tup [x, y])) (.tup [w1, w2]) (.ref T) := by
  obtain ⟨a, b⟩ := rh.tupNew (ho := .tup [x, y]) hT
  have t := b.tupk rh
  exact ⟨a, b, .tup (SqT.of upd_same) (.cons (r1.mono (fun _ _ => rfl) (Nat.le_refl _) t) (.cons (r2.mono (fun _ _ => rfl) (Nat.le_refl _) t) .nil))⟩
theorem blt_f {a b : Nat} (h : Nat.blt a b = false) : b ≤ a := Nat.not_lt.mp fun z => by
  have : Nat.blt a b = true := Nat.ble_eq_true_of_le z
  rw [h] at this; cases this
theorem none_len {ws : List W} {i : Nat} (h : ws[i]? = none) : ws.length ≤ i := List.getElem?_eq_none_iff.mp h
theorem its_zipL {G : GC} {m : Nat → Addr} {n k l : Nat} {H : Hp} (hk : k < n) (hl : l < n) : ItS G m n H (srcZ (.ref k) (.ref l)) (Itz G.K (m k) (m l)) := by
  intro m' h' H' j rh old le tk kf
  simp only [srcZ, rdS]
  cases e1 : rdL h' k with
  | none => exact ⟨fun z => (by cases z), fun w z => (by cases z)⟩
  | some xs =>
    cases e2 : rdL h' l with
    | none => exact ⟨fun z => (by cases z), fun w z => (by cases z)⟩
    | some ys =>
      obtain ⟨us, s1, q1⟩ := rh.rd (Nat.lt_of_lt_of_le hk le) e1
      obtain ⟨vs, s2, q2⟩ := rh.rd (Nat.lt_of_lt_of_le hl le) e2
      rw [old k hk] at s1
      rw [old l hl] at s2
      simp only
      cases c1 : xs[j]? with
      | none => exact ⟨fun _ => ⟨us, vs, s1, s2, .inl (by rw [← q1.len]; exact none_len c1)⟩, fun w z => (by cases z)⟩
      | some x =>
        cases c2 : ys[j]? with
        | none => exact ⟨fun _ => ⟨us, vs, s1, s2, .inr (by rw [← q2.len]; exact none_len c2)⟩, fun w z => (by cases z)⟩
        | some y =>
          obtain ⟨u, a1, b1⟩ := q1.get c1
          obtain ⟨v, a2, b2⟩ := q2.get c2
          refine ⟨fun z => (by cases z), fun w z => ?_⟩
          cases z
          refine ⟨⟨us, vs, u, v, s1, s2, a1, a2⟩, fun x' H'' yl => ?_⟩
          obtain ⟨T, p, r, rfl, hT, rfl, f1, f2⟩ := yl
          have := f1 us s1; rw [a1] at this; cases this
          have := f2 vs s2; rw [a2] at this; cases this
          exact pair_new rh hT b1 b2
theorem its_zipT {G : GC} {m : Nat → Addr} {n : Nat} {H : Hp} {a b : Addr} {us vs : List V} {xs ys : List W} (s1 : SqT G.K H a us) (q1 : RWs G m n H xs us) (s2 : SqT G.K H b vs) (q2 : RWs G m n H ys vs) : ItS G m n H (srcZ (.tup xs) (.tup ys)) (RZ.ItzT G.K a b) := by
  intro m' h' H' j rh old le tk kf
  have s1' := tk.seq s1
  have s2' := tk.seq s2
  have q1' := q1.mono old le tk
  have q2' := q2.mono old le tk
  simp only [srcZ, rdS]
  cases c1 : xs[j]? with
  | none => exact ⟨fun _ => ⟨us, vs, s1', s2', .inl (by rw [← q1.len]; exact none_len c1)⟩, fun w z => (by cases z)⟩
  | some x =>
    cases c2 : ys[j]? with
    | none => exact ⟨fun _ => ⟨us, vs, s1', s2', .inr (by rw [← q2.len]; exact none_len c2)⟩, fun w z => (by cases z)⟩
    | some y =>
      obtain ⟨u, a1, b1⟩ := q1'.get c1
      obtain ⟨v, a2, b2⟩ := q2'.get c2
      refine ⟨fun z => (by cases z), fun w z => ?_⟩
      cases z
      refine ⟨⟨us, vs, u, v, s1', s2', a1, a2⟩, fun x' H'' yl => ?_⟩
      obtain ⟨T, p, r, rfl, hT, rfl, f1, f2⟩ := yl
      have := f1 us s1'; rw [a1] at this; cases this
      have := f2 vs s2'; rw [a2] at this; cases this
      exact pair_new rh hT b1 b2
theorem its_enL {G : GC} {m : Nat → Addr} {n k : Nat} {H : Hp} (hk : k < n) : ItS G m n H (srcE (.ref k)) (Ite G.K (m k)) := by
  intro m' h' H' j rh old le tk kf
  simp only [srcE, rdS]
  cases e1 : rdL h' k with
  | none => exact ⟨fun z => (by cases z), fun w z => (by cases z)⟩
  | some xs =>
    obtain ⟨us, s1, q1⟩ := rh.rd (Nat.lt_of_lt_of_le hk le) e1
    rw [old k hk] at s1
    simp only
    cases c1 : xs[j]? with
    | none => exact ⟨fun _ => ⟨us, s1, by rw [← q1.len]; exact none_len c1⟩, fun w z => (by cases z)⟩
    | some x =>
      obtain ⟨u, a1, b1⟩ := q1.get c1
      refine ⟨fun z => (by cases z), fun w z => ?_⟩
      cases z
      refine ⟨⟨us, u, s1, a1⟩, fun x' H'' yl => ?_⟩
      obtain ⟨T, p, rfl, hT, rfl, f1⟩ := yl
      have := f1 us s1; rw [a1] at this; cases this
      exact pair_new rh hT (.int _) b1
theorem its_enT {G : GC} {m : Nat → Addr} {n : Nat} {H : Hp} {a : Addr} {us : List V} {xs : List W} (s1 : SqT G.K H a us) (q1 : RWs G m n H xs us) : ItS G m n H (srcET xs) (DL.IteT G.K a) := by
  intro m' h' H' j rh old le tk kf
  have s1' := tk.seq s1
  have q1' := q1.mono old le tk
  simp only [srcET]
  cases c1 : xs[j]? with
  | none =>
    cases c : Nat.beq xs.length j with
    | false => exact ⟨fun z => (by cases z), fun w z => (by cases z)⟩
    | true => exact ⟨fun _ => ⟨us, s1', by rw [← q1.len]; exact beq_eq c⟩, fun w z => (by cases z)⟩
  | some x =>
    obtain ⟨u, a1, b1⟩ := q1'.get c1
    refine ⟨fun z => (by cases z), fun w z => ?_⟩
    cases z
    refine ⟨⟨us, u, s1', a1⟩, fun x' H'' yl => ?_⟩
    obtain ⟨T, p, rfl, hT, rfl, f1⟩ := yl
    have := f1 us s1'; rw [a1] at this; cases this
    exact pair_new rh hT (.int _) b1
theorem its_rvL {G : GC} {m : Nat → Addr} {n k l : Nat} {H : Hp} (hk : k < n) : ItS G m n H (srcV (.ref k) l) (Itv G.K (m k) l) := by
  intro m' h' H' j rh old le tk kf
  simp only [srcV, rdS]
  cases c : Nat.blt j l with
  | false => exact ⟨fun _ => blt_f c, fun w z => (by cases z)⟩
  | true =>
    simp only [cond_true]
    cases e1 : rdL h' k with
    | none => exact ⟨fun z => (by cases z), fun w z => (by cases z)⟩
    | some xs =>
      obtain ⟨us, s1, q1⟩ := rh.rd (Nat.lt_of_lt_of_le hk le) e1
      rw [old k hk] at s1
      simp only
      cases c1 : xs[l - 1 - j]? with
      | none => exact ⟨fun z => (by cases z), fun w z => (by cases z)⟩
      | some x =>
        obtain ⟨u, a1, b1⟩ := q1.get c1
        refine ⟨fun z => (by cases z), fun w z => ?_⟩
        cases z
        refine ⟨⟨Nat.le_of_ble_eq_true c, us, u, s1, a1⟩, fun x' H'' ⟨e, yl⟩ => ?_⟩
        subst e
        have := yl us s1; rw [a1] at this; cases this
        exact ⟨rh, Mv.refl, b1⟩
theorem its_rvT {G : GC} {m : Nat → Addr} {n l : Nat} {H : Hp} {a : Addr} {us : List V} {xs : List W} (s1 : SqT G.K H a us) (q1 : RWs G m n H xs us) : ItS G m n H (srcV (.tup xs) l) (RT.ItvT G.K a l) := by
  intro m' h' H' j rh old le tk kf
  have s1' := tk.seq s1
  have q1' := q1.mono old le tk
  simp only [srcV, rdS]
  cases c : Nat.blt j l with
  | false => exact ⟨fun _ => blt_f c, fun w z => (by cases z)⟩
  | true =>
    simp only [cond_true]
    cases c1 : xs[l - 1 - j]? with
    | none => exact ⟨fun z => (by cases z), fun w z => (by cases z)⟩
    | some x =>
      obtain ⟨u, a1, b1⟩ := q1'.get c1
      refine ⟨fun z => (by cases z), fun w z => ?_⟩
      cases z
      refine ⟨⟨Nat.le_of_ble_eq_true c, us, u, s1', a1⟩, fun x' H'' ⟨e, yl⟩ => ?_⟩
      subst e
      have := yl us s1'; rw [a1] at this; cases this
      exact ⟨rh, Mv.refl, b1⟩
def iZ (fs : FA) : FI := fun ρ h => (fs ρ h).bind fun ws h1 => match ws with
  | [.ref k, .ref l] => match rdL h1 k, rdL h1 l with
    | some _, some _ => .ok (srcZ (.ref k) (.ref l)) h1
    | _, _ => .no
  | [.tup xs, .tup ys] => .ok (srcZ (.tup xs) (.tup ys)) h1
  | _ => .no
theorem si_zip {elts : List Expr} {kk : Nat} (hK : X.K = B.G.K) (hg : Gl X "zip") (hm : X.mg "zip" = none) (ha : SA X B [a, b] fs) (hs : starEach [a, b] X.env = (false, eval a X.env) :: starEach [b] X.env) (hpl : (backTo pos (starEach [b] X.env)).any (·.1) = false) :
    SI X B (.Tuple elts kk tpos) (.Call (.Name "zip" p) [a, b] [] pos) (iZ fs) :=
  pi_imp (RZ.pi_zipA hg hm ha hs hpl) fun σ H R ⟨m, h, ρ, s, o⟩ => ⟨m, h, ρ, s, (Out.bind s.rh o).mono fun vs H1 ⟨ws, m1, h1, r1, v1, q1, o1⟩ => by
    match ws, o1 with
    | [.ref k, .ref l], o1 =>
      obtain ⟨v, u, rfl, ra, rb⟩ := rws_two q1
      obtain ⟨rfl, hk⟩ := rw_ref ra
      obtain ⟨rfl, hl⟩ := rw_ref rb
      simp only at o1
      split at o1
      · rename_i xs ys e1 e2
        obtain ⟨us, s1, _⟩ := r1.rd hk e1
        obtain ⟨vs, s2, _⟩ := r1.rd hl e2
        exact ⟨_, _, us, vs, rfl, .inl ⟨by rw [hK]; exact s1, by rw [hK]; exact s2, by rw [hK]; exact o1 m1 H1 _ r1 Mv.refl (its_zipL hk hl)⟩⟩
      · exact o1.elim
    | [.tup xs, .tup ys], o1 =>
      obtain ⟨v, u, rfl, ra, rb⟩ := rws_two q1
      obtain ⟨a, us, rfl, s1, z1⟩ := rw_tup ra
      obtain ⟨b, vs, rfl, s2, z2⟩ := rw_tup rb
      exact ⟨a, b, us, vs, rfl, .inr ⟨by rw [hK]; exact s1, by rw [hK]; exact s2, by rw [hK]; exact o1 m1 H1 _ r1 Mv.refl (its_zipT s1 z1 s2 z2)⟩⟩⟩
def iEL (fs : FA) : FI := fun ρ h => (fs ρ h).bind fun ws h1 => match ws with
  | [.ref k] => match rdL h1 k with
    | some _ => .ok (srcE (.ref k)) h1
    | _ => .no
  | _ => .no
theorem si_enL {elts : List Expr} {kk : Nat} (hK : X.K = B.G.K) (hg : Gl X "enumerate") (hm : X.mg "enumerate" = none) (ha : SA X B [e] fs) (hs : starEach [e] X.env = [(false, eval e X.env)]) : SI X B (.Tuple elts kk tpos) (.Call (.Name "enumerate" p) [e] [] pos) (iEL fs) :=
  pi_imp (pi_enum hg hm ha hs) fun σ H R ⟨m, h, ρ, s, o⟩ => ⟨m, h, ρ, s, (Out.bind s.rh o).mono fun vs H1 ⟨ws, m1, h1, r1, v1, q1, o1⟩ => by
    match ws, o1 with
    | [.ref k], o1 =>
      obtain ⟨v, rfl, ra⟩ := rws_one q1
      obtain ⟨rfl, hk⟩ := rw_ref ra
      simp only at o1
      split at o1
      · rename_i xs e1
        obtain ⟨us, s1, _⟩ := r1.rd hk e1
        exact ⟨_, us, rfl, by rw [hK]; exact s1, by rw [hK]; exact o1 m1 H1 _ r1 Mv.refl (its_enL hk)⟩
      · exact o1.elim⟩
def iET (fs : FA) : FI := fun ρ h => (fs ρ h).bind fun ws h1 => match ws with
  | [.tup xs] => .ok (srcET xs) h1
  | _ => .no
theorem si_enT {elts : List Expr} {kk : Nat} (hK : X.K = B.G.K) (hg : Gl X "enumerate") (hm : X.mg "enumerate" = none) (ha : SA X B [e] fs) (hs : starEach [e] X.env = [(false, eval e X.env)]) : SI X B (.Tuple elts kk tpos) (.Call (.Name "enumerate" p) [e] [] pos) (iET fs) :=
  pi_imp (DL.pi_enumT hg hm ha hs) fun σ H R ⟨m, h, ρ, s, o⟩ => ⟨m, h, ρ, s, (Out.bind s.rh o).mono fun vs H1 ⟨ws, m1, h1, r1, v1, q1, o1⟩ => by
    match ws, o1 with
    | [.tup xs], o1 =>
      obtain ⟨v, rfl, ra⟩ := rws_one q1
      obtain ⟨a, us, rfl, s1, z1⟩ := rw_tup ra
      exact ⟨a, us, rfl, by rw [hK]; exact s1, by rw [hK]; exact o1 m1 H1 _ r1 Mv.refl (its_enT s1 z1)⟩⟩
def iRv (f : FE) : FI := fun ρ h => (f ρ h).bind fun w h1 => match rdS w h1 with
  | some ws => .ok (srcV w ws.length) h1
  | none => .no
theorem si_rev (hK : X.K = B.G.K) (hg : Gl X "reversed") (hm : X.mg "reversed" = none) (he : SE X B e f) (hs : starEach [e] X.env = (false, eval e X.env) :: starEach [] X.env) : SI X B tg (.Call (.Name "reversed" p) [e] [] pos) (iRv f) :=
  pi_imp (RT.pi_revA hg hm he hs) fun σ H R ⟨m, h, ρ, s, o⟩ => ⟨m, h, ρ, s, (Out.bind s.rh o).mono fun v H1 ⟨w, m1, h1, r1, v1, q1, o1⟩ => by
    cases w <;> try exact o1.elim
    · rename_i ws
      obtain ⟨a, us, rfl, s1, z1⟩ := rw_tup q1
      exact ⟨a, us, rfl, .inr ⟨by rw [hK]; exact s1, by rw [hK, ← z1.len]; exact o1 m1 H1 _ r1 Mv.refl (its_rvT s1 z1)⟩⟩
    · rename_i k
      obtain ⟨rfl, hk⟩ := rw_ref q1
      simp only [rdS] at o1
      split at o1
      · rename_i ws e1
        obtain ⟨us, s1, z1⟩ := r1.rd hk e1
        exact ⟨_, us, rfl, .inl ⟨by rw [hK]; exact s1, by rw [hK, ← z1.len]; exact o1 m1 H1 _ r1 Mv.refl (its_rvL hk)⟩⟩
      · exact o1.elim⟩
end
end EV
namespace EV
open PySem PySem.Spec PyProof.Rows L2
open Sem (wp)
section
variable {prog : Program} {w : World} {A : Around} {E : Value → Shared → Prop} {s : Shared}
end
section
variable {X : Cx} {B : Bx} {e o : Expr} {f fo : FE} {pos tpos p2 : Pos}
end
end EV
namespace EV
open PySem PySem.Spec PyProof.Rows L2
inductive BT where
  | lf | nd (o : Option (List W → Hpe → Res W)) (l r : BT)
noncomputable def BT.get (t : BT) : Nat → List W → Hpe → Res W :=
  BT.rec (motive := fun _ => Nat → List W → Hpe → Res W) (fun _ _ _ => .no) (fun o _ _ gl gr n => bif Nat.beq n 0 then (match o with
      | some f => f
      | none => fun _ _ => .no) else bif Nat.beq (n % 2) 1 then gl (n / 2) else gr (n / 2 - 1)) t
section
variable {X : Cx} {B : Bx} {a b : Expr} {fa fb : FE} {ft : FT} {pos : Pos}
def eNtT (f : FE) : FE := fun ρ h => (f ρ h).bind fun w h1 => match truW w h1 with
  | some b => .ok (.bl (!b)) h1
  | none => .no
theorem se_notT (hK : X.K = B.G.K) (ha : SE X B a fa) : SE X B (.UnaryOp .Not a pos) (eNtT fa) :=
  pe_imp (pe_notT ha) fun σ H Q ⟨m, h, ρ, s, o⟩ => ⟨m, h, ρ, s, (Out.bind s.rh o).mono fun v H1 ⟨w, m1, h1, r1, v1, q1, o1⟩ => by
    cases c : truW w h1 with
    | none => rw [c] at o1; exact o1.elim
    | some d => rw [c] at o1; exact ⟨d, by rw [hK]; exact tru_ok r1 q1 c, o1 m1 H1 _ r1 Mv.refl (.bl _)⟩⟩
def cM (k : Int) (n : Nat) : Bool := decide (-1000000 ≤ k) && decide (k ≤ 1000) && Nat.ble n 1000
def gMul : W → W → Hpe → Res W
  | .int i, .int j, h => bif cMul i j then .ok (.int (i * j)) h else .no
  | .tup ws, .int k, h => bif cM k ws.length then .ok (.tup (List.replicate k.toNat ws).flatten) h else .no
  | .ref n, .int k, h => match h.get n with
    | some (.lst ws) => bif cM k ws.length then h.al (.lst (List.replicate k.toNat ws).flatten) else .no
    | _ => .no
  | _, _, _ => .no
abbrev rMulE (K : PySem.W.Frag) : R2 := fun x y H Q => (rI CMul fun i j => .int (i * j)) x y H Q ∨ (DL.rMulT K x y H Q ∨ rRep x y H Q)
theorem op_mulE : OpR X (binaryOp .Mult) (rMulE X.K) := OpR.or op_mul (OpR.or DL.op_mulT op_rep)
theorem flat_len {α : Type} (ws : List α) : ∀ k : Nat, (List.replicate k ws).flatten.length = k * ws.length
  | 0 => by simp
  | k + 1 => by rw [List.replicate_succ, List.flatten_cons, List.length_append, flat_len ws k, Nat.succ_mul, Nat.add_comm]
theorem os_mul {G : GC} : OpS G (rMulE G.K) gMul := by
  intro cl Wx m h H a b x y Q rh ra rb o
  cases b <;> try (cases a <;> exact o.elim)
  rename_i k
  obtain rfl := rw_int rb
  cases a <;> try exact o.elim
  · rename_i i
    obtain rfl := rw_int ra
    simp only [gMul] at o
    cases c : cMul i k with
    | false => rw [c] at o; exact o.elim
    | true => rw [c] at o; exact .inl ⟨i, k, rfl, rfl, cMul_ok i k c, o m H _ rh Mv.refl (.int _)⟩
  · rename_i ws
    obtain ⟨a, xs, rfl, s, q⟩ := rw_tup ra
    simp only [gMul] at o
    cases c : cM k ws.length with
    | false => rw [c] at o; exact o.elim
    | true =>
      rw [c] at o
      have o : Out G cl (RW G) Wx m h H (.ok (.tup (List.replicate k.toNat ws).flatten) h) Q := o
      have c' := c
      simp only [cM, Bool.and_eq_true, decide_eq_true_eq] at c'
      have c3 : ws.length ≤ 1000 := Nat.le_of_ble_eq_true c'.2
      refine .inr (.inl ⟨a, k, xs, rfl, rfl, s, c'.1.1, c'.1.2, by rw [← q.len]; exact c3, fun z => ?_, fun _ _ p hp => tup_ok rh o (q.rep _) p hp⟩)
      have e : (List.replicate k.toNat ws).flatten = ws := by
        rcases z with z | z
        · subst z
          have : ws = [] := List.eq_nil_of_length_eq_zero (by rw [q.len]; rfl)
          rw [this]
          induction k.toNat with
          | zero => rfl
          | succ n ih => rw [List.replicate_succ, List.flatten_cons, ih]; rfl
        · rw [z]
          show ([ws] : List (List W)).flatten = ws
          simp
      rw [e] at o
      exact o m H _ rh Mv.refl (.tup s q)
  · rename_i n
    obtain ⟨rfl, hn⟩ := rw_ref ra
    simp only [gMul] at o
    split at o
    · rename_i ws e
      obtain ⟨xs, e1, q⟩ := rh.lst hn e
      cases c : cM k ws.length with
      | false => rw [c] at o; exact o.elim
      | true =>
        rw [c] at o
        have c' := c
        simp only [cM, Bool.and_eq_true, decide_eq_true_eq] at c'
        have c3 : ws.length ≤ 1000 := Nat.le_of_ble_eq_true c'.2
        refine .inr (.inr ⟨_, k, xs, rfl, rfl, e1, by omega, by omega, ?_, al_ok rh o (.lst (q.rep _))⟩)
        rw [← q.len]
        have h1 : k.toNat ≤ 1000 := by omega
        have h2 : ws.length * k.toNat ≤ 1000 * 1000 := Nat.mul_le_mul c3 h1
        exact Nat.le_trans h2 (by decide)
    · exact o.elim
theorem se_mul (hK : X.K = B.G.K) (ha : SE X B a fa) (hb : SE X B b fb) : SE X B (.BinOp a .Mult b pos) (e2 gMul fa fb) := se_op (r := rMulE B.G.K) (by rw [← hK]; exact op_mulE) os_mul ha hb
end
end EV
namespace EV
open PySem PySem.Spec PyProof.Rows L2
structure ExE (K : PySem.W.Frag) (mg : Str → Option Value) (cl : Cls) (x : Str) (k : Nat) : Prop where
  ex : ∃ C bmB Bn newId initId, ExcBaseFacts Bn newId initId bmB ∧ PySem.W.excIn K C bmB newId = true ∧ mg x = some (.ref C) ∧ cl k = some (.ref C) ∧ PySem.W.keepIn K (.ref C) = true ∧ PySem.W.subIn K (.ref C) (.type "BaseException") = some true ∧ PySem.W.typeIn K (.ref C) = some (.type "type")
structure ExN (K : PySem.W.Frag) (mg : Str → Option Value) (cl : Cls) (x : Str) (k : Nat) : Prop where
  ex : ∃ c, mg x = some c ∧ cl k = some c
  mt : ∀ j c c', cl j = some c → cl k = some c' → PySem.W.exmOne K c c' = some (Nat.beq j k)
section
variable {X : Cx} {B : Bx} {a b c e : Expr} {f f1 f2 fb : FS} {pos pos' p np : Pos} {x : Str} {k : Nat}
def sRs (k : Nat) : FS := fun ρ h => .ex ⟨k, []⟩ ρ h
theorem ss_raise (hc : X.calm = true) (tk : Takes X B.W) (C : ExE X.K X.mg B.cl x k) (hg : Gl X x) (hdb : (x == ("__debug__" : Str)) = false) : SSt X B (.Raise (some (.Call (.Name x p) [] [] pos)) none pos') (sRs k) := by
  obtain ⟨C, bmB, Bn, newId, initId, F, q, gC, hcl, kC, sC, tC⟩ := C.ex
  exact ps_imp (ps_raise hc tk (DL.pmk_own0 F q gC kC (raises_own sC tC) hg hdb)) fun D σ H ⟨m, h, ρ, s, o⟩ => o m H σ _ none s Mv.refl ⟨hcl, .inl ⟨rfl, rfl⟩⟩
def RS.noX : RS → RS
  | .ex _ _ _ => .no
  | r => r
theorem OutS.noX {m : Nat → Addr} {h : Hpe} {H : Hp} {D : Ends} {r : RS} (o : OutS B m h H D r.noX) : OutS B.nox m h H D r := by
  cases r with
  | nx ρ' h' => exact o
  | ex x ρ' h' => exact o.elim
  | no => exact o
  | rt w h' => exact o
  | bk ρ' h' => exact o
  | ct ρ' h' => exact o
def hdl : List (Nat × FS) → EV.Exc → FS
  | [], x, ρ, h => .ex x ρ h
  | (k, f) :: r, x, ρ, h => bif Nat.beq x.cls k then (f ρ h).noX else hdl r x ρ h
def sTry (fb : FS) (hs : List (Nat × FS)) : FS := fun ρ h => match fb ρ h with
  | .ex x ρ' h' => hdl hs x ρ' h'
  | r => r
inductive HE (X : Cx) (B : Bx) : List ExceptHandler → List (Nat × FS) → Prop
  | nil : HE X B [] []
  | cons {x : Str} {k : Nat} {f : FS} {b₀ : Stmt} {suite : List Stmt} {np pos' : Pos} {hds : List ExceptHandler} {l : List (Nat × FS)} (hg : Gl X x) (hdb : (x == ("__debug__" : Str)) = false) (C : ExN X.K X.mg B.cl x k)
      (hsu : ∀ (a : Addr) (oe : Obj) (pn : List (Addr × Obj)), SSs (X.suite a ((a, oe) :: pn)) B.nox (b₀ :: suite) f) (r : HE X B hds l) : HE X B (.ExceptHandler (some (.Name x np)) none (b₀ :: suite) pos' :: hds) ((k, f) :: l)
theorem HE.ok {hds : List ExceptHandler} {l : List (Nat × FS)} (hh : HE X B hds l) : ∃ ls, HdsOk X hds ls ∧ ∀ (D : Ends) (x : EV.Exc) (m : Nat → Addr) (h : Hpe) (ρ : Rho) (σ : L2.St) (H : Hp) (c : Value) (d : Option Addr), SS B.G B.cf m h ρ σ H → ExR B.G B.cl m h.nx H x c d → OutS B m h H D (hdl l x ρ h) → wMany X.K B.W D ls c d σ H := by
  induction hh with
  | nil => exact ⟨[], .nil, fun D x m h ρ σ H c d s r o => o m H σ c d s Mv.refl r⟩
  | @cons x k f b₀ suite np pos' hds l hg hdb C hsu r ih =>
    obtain ⟨ls, h1, h2⟩ := ih
    obtain ⟨cv, hm, hk⟩ := C.ex
    refine ⟨(cv, fun _ _ _ => tS B.nox f) :: ls, .cons ⟨hg, hdb, .inl hm⟩ (fun a oe cls d pn _ _ => hsu a oe pn) h1, fun D x m h ρ σ H c d s rx o => ?_⟩
    refine ⟨_, C.mt x.cls c cv rx.1 hk, fun hb a _ => ⟨m, h, ρ, s, ?_⟩, fun hb => h2 D x m h ρ σ H c d s rx ?_⟩
    · simp only [hdl, hb, cond_true] at o; exact o.noX
    · simp only [hdl, hb, cond_false] at o; exact o
theorem ss_try {body : List Stmt} {h₀ : ExceptHandler} {hds : List ExceptHandler} {l : List (Nat × FS)} (hs : X.stack = X.env :: X.outer) (hf : X.env.frame = some X.env.locals) (tk : Takes X B.W)
    (hb : ∀ (W : WX) (pn : List (Addr × Obj)) (xe : Value → Shared → Prop), Takes (X.tr pn xe) W → PassesOwn (model X.prog X.w) X.A X.env xe → SSs (X.tr pn xe) ⟨B.G, B.cl, W, B.cf⟩ body fb) (hh : HE X B (h₀ :: hds) l) : SSt X B (.Try body (h₀ :: hds) [] [] pos) (sTry fb l) := by
  obtain ⟨ls, h1, h2⟩ := hh.ok
  refine ps_imp (ps_try_many (tb := fun W => tS ⟨B.G, B.cl, W, B.cf⟩ fb) hs hf tk hb h1) fun D σ H ⟨m, h, ρ, s, o⟩ => ⟨m, h, ρ, s, ?_⟩
  simp only [sTry] at o
  cases q : fb ρ h with
  | nx ρ' h' => simp only [q] at o; exact o
  | rt w h' => simp only [q] at o; exact o
  | bk ρ' h' => simp only [q] at o; exact o
  | ct ρ' h' => simp only [q] at o; exact o
  | no => simp only [q] at o; exact o
  | ex x ρ' h' =>
    simp only [q] at o
    exact fun m' H' σ' c d s' v' rx => h2 D x m' h' ρ' σ' H' c d s' rx (OutS.shift s.rh s'.rh v' o)
end
end EV
namespace EV
open PySem PySem.Spec PyProof.Rows L2
section
variable {prog : Program} {w : World} {A : Around} {R : Result → Shared → Prop} {a : Addr}
theorem all_loop (I : Nat → Shared → Prop) (turn : ∀ n s, I n s → wpAny (model prog w) A.in1 (pyNext (.ref a)) (fun r s1 => match r with
      | none => R (.ok (.ret (.bool true))) s1
      | some v => ∃ b, v = .bool b ∧ (b = true → ∃ m, m < n ∧ I m s1) ∧ (b ≠ true → R (.ok (.ret (.bool false))) s1)) (fun _ _ => False) s) :
    ∀ n s, I n s → codeAny (model prog w) A (.builtin "all.loop" ⟨[.ref a], []⟩) R s := by
  intro n
  induction n using Nat.strongRecOn with
  | ind n ih =>
    intro s h
    refine codeAny_builtin F.entry_all_loop ?_
    rw [Around.under_plainId F.plain_all_loop _]
    show wpAny _ A.in1 (pyNext (.ref a) >>= _) _ _ s
    refine wpAny_bind (wpAny_mono (turn n s h) (fun r s1 q => ?_) fun _ _ z => z.elim)
    cases r with
    | none => exact wpAny_bind (wpAny_rule (wpAny_pure q))
    | some v =>
      obtain ⟨b, rfl, q1, q2⟩ := q
      refine wpAny_bind (wpAny_holding (wpAny_truthy_bool ?_))
      refine wpAny_bind (wpAny_letGo ?_)
      cases b with
      | true =>
        obtain ⟨m, hm, hI⟩ := q1 rfl
        simp only [if_true]
        exact wpAny_pure ⟨plainId_quiet F.plain_all_loop _, ih m hm s1 hI⟩
      | false =>
        simp only [Bool.false_eq_true, if_false]
        exact wpAny_bind (wpAny_rule (wpAny_pure (q2 (by decide))))
end
section
variable {A : Around} {elt tg iter : Expr} {ifs : List Expr} {scope : Scope} {pos : Pos} {it acc : Value} {env : Env}
theorem over_gl : A.over (.compLoop (.GeneratorExp elt [⟨tg, iter, ifs, 0⟩] scope pos) 0 it acc env) [] = A.deeper env := by
  first
    | rfl
    | (obtain ⟨hd, d, fr, gs, u⟩ := A; simp [Around.over, Around.deeper, marksOver, frameCount, unitsOf, envsOf, guardsOf, pushEnvs, pushGuards, Code.envs, Code.env?, Code.isFrame, Code.guards, Code.isGuard, Code.weight, Code.frames, Code.isCreation, Code.isCaller, Code.cUnits])
end
def YG (al : Bool) (W : Nat → Shared → Prop) (Stop : Shared → Prop) : Protocol := fun n s₀ v s kap =>
  ∃ b, v = .bool b ∧ (b = al → ∃ k, k ≤ n ∧ W k s ∧ ∀ s'', W k s'' → kap (.send .none) s'') ∧ (b ≠ al → Stop s)
section
variable {prog : Program} {w : World} {A : Around} {elt tg iter : Expr} {ifs : List Expr} {scope : Scope} {pos : Pos} {it : Value} {cenv : Env}
theorem seg_gen (hco : cenv.scope.isCoroutine = false) (al : Bool) (W : Nat → Shared → Prop) (Fin Stop : Shared → Prop)
    (turn : ∀ k s, W k s → wpAny (model prog w) (A.deeper cenv) (pyNext it) (fun r s1 => match r with
      | none => Fin s1
      | some v => wpAny (model prog w) (A.deeper cenv) (letOwnedTupleGo tg it v) (fun _ s2 => wpAny (model prog w) (A.deeper cenv) (assign tg cenv v) (fun _ s3 =>
          wpAny (model prog w) (A.deeper cenv) (forIn ifs true fun c r => if r = true then do let ok ← isTrue c cenv (eval c cenv); pure (ForInStep.yield ok) else pure (ForInStep.yield r)) (fun ok s4 =>
            if ok = true then wpAny (model prog w) (A.deeper cenv) (eval elt cenv) (fun y s5 => ∃ b, y = .bool b ∧ (b = al → ∃ m, m < k ∧ W m s5) ∧ (b ≠ al → Stop s5)) (fun _ _ => False) s4
            else ∃ m, m < k ∧ W m s4) (fun _ _ => False) s3) (fun _ _ => False) s2) (fun _ _ => False) s1) (fun _ _ => False) s) (ne0 : ∀ s, ¬ W 0 s) :
    ∀ k n s₀ s, k ≤ n → W k s → Seg (model prog w) A (fun n s₀ r s₁ => r = .ok .next ∧ Fin s₁) (YG al W Stop) n s₀ (.compLoop (.GeneratorExp elt [⟨tg, iter, ifs, 0⟩] scope pos) 0 it .none cenv)
      ((model prog w).den (.compLoop (.GeneratorExp elt [⟨tg, iter, ifs, 0⟩] scope pos) 0 it .none cenv)) [] s := by
  intro k
  induction k using Nat.strongRecOn with
  | ind k ih =>
    intro n s₀ s hkn h
    have ov := @over_gl A elt tg iter ifs scope pos it .none cenv
    show Seg _ A _ _ _ s₀ _ ((compTurn (.GeneratorExp elt [⟨tg, iter, ifs, 0⟩] scope pos) 0 it .none cenv).onRaise (leaving cenv)) [] s
    rw [compTurn_gen, Sem.onRaise_eq_wrap]
    refine seg_bind_wrap (wpAny_standAt ?_)
    refine seg_bind_wrap ?_
    rw [ov]
    refine wpAny_mono (turn k s h) (fun r s1 h1 => ?_) fun _ _ z => z.elim
    cases r with
    | none => exact seg_end (.ok .next) ⟨rfl, h1⟩
    | some v =>
      refine seg_bind_wrap ?_
      rw [ov]
      refine wpAny_mono h1 (fun _ s2 h2 => ?_) fun _ _ z => z.elim
      refine seg_bind_wrap ?_
      rw [ov]
      refine wpAny_mono h2 (fun _ s3 h3 => ?_) fun _ _ z => z.elim
      refine seg_bind_wrap ?_
      rw [ov]
      refine wpAny_mono h3 (fun ok s4 h4 => ?_) fun _ _ z => z.elim
      cases ok with
      | false =>
        simp only [Bool.false_eq_true, if_false] at h4 ⊢
        obtain ⟨m, hm, hW⟩ := h4
        exact seg_again rfl (ih m hm n s₀ s4 (by omega) hW)
      | true =>
        simp only [if_true] at h4 ⊢
        have hy : ∀ v, yieldOut cenv v = yieldValue v := fun v => by simp only [yieldOut, hco, Bool.false_eq_true, if_false]
        simp only [hy]
        rw [Sem.bind_eq_wrap', Sem.bind_eq_wrap', Sem.wrap_wrap, Sem.wrap_wrap]
        refine seg_wrap ?_
        rw [ov]
        refine wpAny_mono h4 (fun y s5 h5 => ?_) fun _ _ z => z.elim
        obtain ⟨b, rfl, q1, q2⟩ := h5
        have hk0 : k ≠ 0 := fun z => ne0 s (z ▸ h)
        obtain ⟨n, rfl⟩ : ∃ n', n = n' + 1 := ⟨n - 1, by omega⟩
        refine seg_at (seg_yield rfl rfl rfl ⟨b, rfl, fun hb => ?_, q2⟩)
        obtain ⟨m, hm, hW⟩ := q1 hb
        exact ⟨m, by omega, hW, fun s'' hu => seg_again rfl (ih m hm n s'' s'' (by omega) hu)⟩
theorem seg_genS (hco : cenv.scope.isCoroutine = false) (al : Bool) (W : Nat → Shared → Prop) (Fin Stop : Shared → Prop)
    (turn : ∀ k s, W k s → wpAny (model prog w) (A.deeper cenv) (pyNext it) (fun r s1 => match r with
      | none => Fin s1
      | some v => wpAny (model prog w) (A.deeper cenv) (letOwnedTupleGo tg it v) (fun _ s2 => wpAny (model prog w) (A.deeper cenv) (assign tg cenv v) (fun _ s3 =>
          wpAny (model prog w) (A.deeper cenv) (forIn ifs true fun c r => if r = true then do let ok ← isTrue c cenv (eval c cenv); pure (ForInStep.yield ok) else pure (ForInStep.yield r)) (fun ok s4 =>
            if ok = true then wpAny (model prog w) (A.deeper cenv) (eval elt cenv) (fun y s5 => ∃ b, y = .bool b ∧ (b = al → ∃ m, m < k ∧ W m s5) ∧ (b ≠ al → Stop s5)) (fun _ _ => False) s4
            else ∃ m, m < k ∧ W m s4) (fun _ _ => False) s3) (fun _ _ => False) s2) (fun _ _ => False) s1) (fun _ _ => False) s) (ne0 : ∀ s, ¬ W 0 s)
    {k n : Nat} {s₀ s : Shared} (self : ∀ (A : Around) (Q : Value → Shared → Prop) (E : Value → Shared → Prop), Q it s → wpAny (model prog w) A (pyIter it) Q E s) (hkn : k ≤ n) (h : W k s) :
    Seg (model prog w) A (fun n s₀ r s₁ => r = .ok .next ∧ Fin s₁) (YG al W Stop) n s₀ (.compStart (.GeneratorExp elt [⟨tg, iter, ifs, 0⟩] scope pos) 0 it .none cenv)
      ((model prog w).den (.compStart (.GeneratorExp elt [⟨tg, iter, ifs, 0⟩] scope pos) 0 it .none cenv)) [] s := by
  have loop := seg_gen (iter := iter) (scope := scope) (pos := pos) hco al W Fin Stop turn ne0 k n s₀ s hkn h
  show Seg _ A _ _ _ s₀ _ ((compStart (.GeneratorExp elt [⟨tg, iter, ifs, 0⟩] scope pos) 0 it .none cenv).onRaise (leaving cenv)) [] s
  unfold compStart
  rw [Sem.onRaise_eq_wrap]
  show Seg _ A _ _ _ s₀ _ ((ask >>= _).wrap _ _ _ _) [] s
  refine seg_bind_wrap (wpAny_askSetting ?_)
  split
  · exact seg_again rfl loop
  · first
      | exact seg_bind_wrap (wpAny_rule (seg_bind_wrap (wpAny_standAt (seg_bind_wrap (self _ _ _ (seg_again rfl loop))))))
      | (refine seg_bind_wrap (wpAny_rule ?_); show Seg _ A _ _ _ s₀ _ ((standAt iter.pos >>= _).wrap _ _ _ _) [] s; exact seg_bind_wrap (wpAny_standAt (seg_bind_wrap (self _ _ _ (seg_again rfl loop)))))
def Zz (prog : Program) (w : World) (A : Around) (g : Nat) (al : Bool) (W : Nat → Shared → Prop) (Fin Stop : Shared → Prop) (n : Nat) (s : Shared) : Prop :=
  ∃ gs k, k ≤ n ∧ s.gens[g]? = some gs ∧ W k s ∧ ∀ s'', W k s'' → gs.Goes (model prog w) A.in1 (fun n s₀ r s₁ => r = .ok .next ∧ Fin s₁) (YG al W Stop) n (.send .none) s''
theorem gen_next {a : Addr} {g : Nat} {al : Bool} {W : Nat → Shared → Prop} {Fin Stop : Shared → Prop} (hh : A.handled = none) (hroom : A.depth < recursionLimit) (hg : ∀ k s, W k s → s.heap.NoLimit ∧ s.heap.IsGen a g)
    (set : ∀ k s gs, W k s → gs.bare = true → W k (s.setGen g gs)) {Q : Option Value → Shared → Prop} {n : Nat} {s : Shared} (h : Zz prog w A g al W Fin Stop n s)
    (q0 : ∀ s₁ h', Fin s₁ → (∀ b o, s₁.heap.get? b = some o → h'.get? b = some o) → Q none { s₁.setGen g .finished with heap := h' })
    (q1 : ∀ m s₁, m < n → Zz prog w A g al W Fin Stop m s₁ → Q (some (.bool al)) s₁) (q2 : ∀ b s₁ gs, b ≠ al → gs.bare = true → Stop s₁ → Q (some (.bool b)) (s₁.setGen g gs)) : wpAny (model prog w) A (pyNext (.ref a)) Q (fun _ _ => False) s := by
  obtain ⟨gs, k, hk, hgs, hW, hgo⟩ := h
  have hlt : g + 1 ≤ s.gens.size := by
    rcases Nat.lt_or_ge g s.gens.size with z | z
    · exact z
    · rw [Array.getElem?_eq_none z] at hgs; cases hgs
  refine GenW.wpAny_gsz hlt ?_
  refine wpAny_mono (wpAny_pyNext_genexpQ (Q := fun r s' => g + 1 ≤ s'.gens.size → Q r s') (E := fun _ _ => False) (P := fun _ _ s₁ => Fin s₁) hh (hg k s hW).1 hroom (hg k s hW).2 hgs (hgo _ (set k s .running hW rfl)) (fun v s₁ gs' hb hv => ?_) fun s₁ hp h' hk' _ => q0 s₁ h' hp hk') (fun _ _ z => z) fun _ _ z _ => z
  obtain ⟨b, rfl, h1, h2⟩ := hv
  intro hsz
  by_cases c : b = al
  · subst c
    obtain ⟨k', hk', hW', hkap⟩ := h1 rfl
    cases n with
    | zero => exact (hkap s₁ hW').elim
    | succ n =>
      have hsz' : g < s₁.gens.size := by
        have : (s₁.setGen g gs').gens.size = s₁.gens.size := by simp [Shared.setGen]
        omega
      refine q1 n _ (Nat.lt_succ_self n) ⟨gs', k', hk', ?_, set k' s₁ gs' hW' hb, hkap⟩
      simp [Shared.setGen, hsz']
  · exact q2 b s₁ gs' c hb (h2 c)
end
end EV
namespace EV
open PySem PySem.Spec PyProof.Rows L2
abbrev genX (X : Cx) (s : Shared) (H : Hp) (cenv : Env) (fp : List Addr) (pn : List (Addr × Obj)) : Cx :=
  { X with A := X.A.in1.in1.deeper cenv, s_0 := s, H_0 := H, env := cenv, outer := X.stack, stack := cenv :: X.stack, ex := fp, fn := fun _ => false, calm := true, pn := pn, xe := fun _ _ => False }
section
variable {X : Cx} {pins : List (Addr × Obj)} {σ : L2.St} {H : Hp} {s : Shared}
theorem gen_start {scope : Scope} {own : List (Str × Nat)} {fp : List Addr} (I : Inv X pins σ H s) (hc : X.A.handled = none) (ok : BlkOk X.N X.env.scope scope own) (hN : X.N.Nodup) (hcell : ∀ y ∈ scope.names, y.2 ≠ .cell) (hfp : ∀ b ∈ fp, FpOk X pins H b ∧ b < s.heap.objs.size)
    {code : Value} {h5 : Heap} {g5 : Array GenState} {t5 : Nat} {mm : Str → Option Value} {a : Addr} {og : Obj} (keep : ∀ b o, s.heap.get? b = some o → h5.get? b = some o) (hn : h5.Ns s.heap.objs.size mm) (ha : h5.get? a = some og) (hage : s.heap.objs.size < a) (hog : ∀ v, og.data ≠ .cell v) (hg : AllBare g5) :
    Inv (genX X s H (genEnv scope (cloFrom X.env.cells scope.names []) s.heap.objs.size code builtinsNs X.env) fp [(a, og)]) [] (wipe σ (own.map (·.2))) H { s with heap := h5, gens := g5, toks := t5 } := by
  have hfree : ∀ y ∈ scope.names, y.2 = .free → ∃ c, X.env.cells.lookup y.1 = some c := fun y hy e => by
    rcases ok.free y hy e with k | k
    · exact I.ok.has _ (.inl k)
    · exact I.ok.has _ (.inr k)
  generalize hcenv : genEnv scope (cloFrom X.env.cells scope.names []) s.heap.objs.size code builtinsNs X.env = cenv
  have hL : cenv.locals = s.heap.objs.size := by rw [← hcenv]; rfl
  have hcl : cenv.cells = cloFrom X.env.cells scope.names [] := by rw [← hcenv]; rfl
  have hsc : cenv.scope = scope := by rw [← hcenv]; rfl
  have mem : ∀ {y c}, cenv.cells.lookup y = some c → X.env.cells.lookup y = some c ∧ c < s.heap.objs.size := fun {y c} e => by
    rw [hcl] at e
    rcases cloFrom_mem (PySem.mem_of_lookup e) with hm | ⟨h1, rfl⟩
    · cases hm
    · obtain ⟨c, hc⟩ := hfree _ h1 rfl
      rw [hc]
      obtain ⟨w, z⟩ := I.cell _ _ hc
      exact ⟨rfl, z.lt⟩
  have look : ∀ {y}, scope.names.lookup y = some .free → ∃ c, cenv.cells.lookup y = some c ∧ X.env.cells.lookup y = some c := fun {y} hl => by
    obtain ⟨c', e'⟩ := mem_lookup (cloFrom_has (cells := X.env.cells) (acc := []) (PySem.mem_of_lookup hl))
    rw [← hcl] at e'
    exact ⟨c', e', (mem e').1⟩
  have fresh : ∀ {b : Addr}, s.heap.objs.size ≤ b → H b = none := fun {b} hb => I.hok.fresh hb
  have cfr : ∀ {y c}, cenv.cells.lookup y = some c → H c = none := fun e => I.freeC _ _ (mem e).1
  have okG : (genX X s H cenv fp [(a, og)]).Ok := by
    refine ⟨I.ok.mod, by show cenv.scope.kind = _; rw [hsc]; exact ok.kind, by show cenv.globals = _; rw [← hcenv]; exact I.ok.glob, by show cenv.builtins = _; rw [← hcenv]; rfl, by show s.heap.objs.size ≤ cenv.locals; rw [hL]; exact Nat.le_refl _,
      fun y z c e1 e2 => I.ok.inj y z c (mem e1).1 (mem e2).1, fun y hy => ?_, fun y c z e => absurd (show false = true from z) (by decide), fun _ => hc, Around.frames_deeper I.ok.frames, .inr ⟨rfl, by show cenv.frame = _; rw [← hcenv]; rfl⟩, fun b hb => ⟨?_, fun y c e z => ?_⟩, I.bs, Nat.le_trans I.ok.bsz I.sz, fun b o e hb => ?_, fun b hb z => ?_, I.stack, I.stkFree⟩
    · have hy : cenv.kindOf y = some .cell ∨ cenv.kindOf y = some .free := hy
      unfold Env.kindOf at hy
      rw [hsc] at hy
      rcases hy with hy | hy
      · exact absurd rfl (hcell _ (PySem.mem_of_lookup hy))
      · obtain ⟨c, e, _⟩ := look hy
        exact ⟨c, e⟩
    · show b ≠ cenv.locals
      rw [hL]; exact Nat.ne_of_lt (hfp b hb).2
    · exact (hfp b hb).1.2.2.2.2.1 y c (mem e).1 z
    · rcases (hfp b hb).1.2.2.2.1 with z | z
      · exact I.ok.noex b o e z
      · exact absurd (Nat.lt_of_lt_of_le (Heap.lt_size e) (Nat.le_trans I.ok.bsz z)) (Nat.lt_irrefl _)
    · rcases List.mem_cons.mp (I.stkSub b z) with z | z
      · exact (hfp b hb).1.2.1 z
      · exact (hfp b hb).1.2.2.1 z
  refine ⟨okG, rfl, hg, Un.kept keep, ⟨mm, ?_, fun i y av e1 e2 e3 => ?_⟩, fun y c e => ?_, ?_, fun y c e => cfr e, fun p hp => ?_, I.hok.kept keep, by rw [wipe_length]; exact I.len⟩
  · show Heap.Ns _ cenv.locals _
    rw [hL]; exact hn
  · obtain ⟨e2, hne⟩ := wipe_some e2
    have e3 : cenv.scope.names.lookup y = some .local ∨ cenv.scope.names.lookup y = some .cell ∨ cenv.scope.names.lookup y = some .free := e3
    rw [hsc] at e3
    rcases e3 with e3 | e3 | e3
    · rcases ok.own _ (PySem.mem_of_lookup e3) (.inl rfl) with e' | e'
      · obtain ⟨p, hp, hpy⟩ := List.mem_map.mp e'
        have e4 := ok.ix p hp
        have : p.1 = y := hpy
        rw [this] at e4
        exact absurd (List.mem_map.mpr ⟨p, hp, nodup_ix hN e4 e1⟩) hne
      · exact absurd (List.mem_of_getElem? e1) e'
    · exact absurd rfl (hcell _ (PySem.mem_of_lookup e3))
    · obtain ⟨m, hm, hl⟩ := I.loc
      have hvis : Vis X.env.scope y := (ok.free _ (PySem.mem_of_lookup e3) rfl).elim (fun k => .inr (.inl k)) (fun k => .inr (.inr k))
      obtain ⟨w, r, q⟩ := hl i y av e1 e2 hvis
      obtain ⟨c, h1, h2⟩ := look e3
      refine ⟨w, r, .inr ⟨.inr (by show cenv.scope.names.lookup y = _; rw [hsc]; exact e3), ?_⟩⟩
      rcases q with ⟨k, _⟩ | ⟨_, c', e', z⟩
      · have k : X.env.scope.names.lookup y = some .local := k
        rcases ok.free _ (PySem.mem_of_lookup e3) rfl with k' | k' <;> rw [show X.env.scope.names.lookup y = _ from k'] at k <;> cases k
      · rw [h2] at e'; cases e'
        exact ⟨c, h1, z.keeps keep⟩
  · obtain ⟨w, z⟩ := I.cell y c (mem e).1
    exact ⟨w, z.keeps keep⟩
  · show H cenv.locals = none
    rw [hL]; exact fresh (Nat.le_refl _)
  · have hp' : p = (a, og) := by simpa using (show p ∈ [(a, og)] ++ [] from hp)
    subst hp'
    refine ⟨ha, fresh (Nat.le_of_lt hage), ?_, ?_, hog⟩
    · show a ≠ cenv.locals
      rw [hL]; exact Nat.ne_of_gt hage
    · intro z
      rcases List.mem_cons.mp (I.stkSub a z) with z | z
      · have := I.lt
        rw [← z] at this
        exact Nat.lt_irrefl _ (Nat.lt_trans this hage)
      · exact I.nofs (Nat.le_of_lt hage) z
end
end EV
set_option maxHeartbeats 4000000
namespace EV
open PySem PySem.Spec PyProof.Rows L2 GxR
def tGn (al : Bool) (P : Addr) (wi : TI) (g : TG) (tt : TT) (te : TE) (vs : List Nat) : TE := fun σ H Q => wi σ H fun J H1 => TabG H1 P ∧ ∀ H1', Tabbed P H1 H1' → ∃ W : Nat → Nat → Hp → Prop, (∃ m, W 0 m H1') ∧ (∀ i H, ¬ W i 0 H) ∧ ∀ i m H, W i m H →
  (J.stop i H ∧ Q (.bl al) H) ∨ (J.go i H ∧ ∃ Nx : Hp → Prop, (∀ H', Nx H' → ∃ m', m' < m ∧ W (i + 1) m' H') ∧ ∀ x H', J.yld i H x H' → g x (wipe σ vs) H' fun σ2 H2 => wipe σ2 vs = wipe σ vs ∧ tt σ2 H2 fun b H3 =>
    if b = true then te σ2 H3 fun y H4 => ∃ c, y = .bl c ∧ (c = al → Nx H4) ∧ (c ≠ al → Q (.bl (!al)) H4) else Nx H3)
theorem bare_set {s : Shared} {g : Nat} {x : GenState} (h : AllBare s.gens) (hx : x.bare = true) : AllBare (s.setGen g x).gens := fun y hy => by
  have hy : y ∈ s.gens.setIfInBounds g x := hy
  obtain ⟨i, hi⟩ := Array.mem_iff_getElem?.mp hy
  rw [Array.getElem?_setIfInBounds] at hi
  split at hi
  · split at hi
    · cases hi; exact hx
    · cases hi
  · exact h _ (Array.mem_iff_getElem?.mpr ⟨i, hi⟩)
def Out2 (X : Cx) (s3 : Shared) (H3 : Hp) (fp : List Addr) (q : Hp → Prop) (s : Shared) : Prop :=
  ∃ H', s.os = s3.os ∧ Un (frs X.stack) fp H3 H' s3.heap s.heap ∧ HOk X.prog X.w H' s.heap ∧ AllBare s.gens ∧ q H'
section
variable {X : Cx} {c P : Addr} {elt tg iter : Expr} {ifs : List Expr} {scope : Scope} {own : List (Str × Nat)} {gpos : Pos} {wi : TI} {g : TG} {tt : TT} {te : TE} {k : Nat}
theorem gen_core {al : Bool} {pins : List (Addr × Obj)} {s : Shared} {σ : L2.St} {H : Hp} {Q : VK} {Qf : Value → Shared → Prop} (hr : Room k X.A) (TB : TabB X.base X.mg c P) (hcode : X.env.code = .ref c) (hN : X.N.Nodup) (I : Inv X pins σ H s) (hi : PI X tg iter wi) (ok : BlkOk X.N X.env.scope scope own)
    (hco : scope.isCoroutine = false) (hcell : ∀ y ∈ scope.names, y.2 ≠ .cell) (hdot : scope.names.lookup (".0" : Str) = some NameKind.local)
    (hg : ∀ (s : Shared) (H : Hp) (C : Addr) (cl : List (Str × Addr)) (code : Value) (fp : List Addr) (pn : List (Addr × Obj)), PG (genX X s H (genEnv scope cl C code builtinsNs X.env) fp pn) tg g)
    (ht : ∀ (s : Shared) (H : Hp) (C : Addr) (cl : List (Str × Addr)) (code : Value) (fp : List Addr) (pn : List (Addr × Obj)), PTs (genX X s H (genEnv scope cl C code builtinsNs X.env) fp pn) ifs tt)
    (he : ∀ (s : Shared) (H : Hp) (C : Addr) (cl : List (Str × Addr)) (code : Value) (fp : List Addr) (pn : List (Addr × Obj)), PE (genX X s H (genEnv scope cl C code builtinsNs X.env) fp pn) elt te) (hs : ∀ x, genFold iter X.env x = pure x)
    (h : tGn al P wi g tt te (own.map (·.2)) σ H Q)
    (hQ : ∀ (a n : Nat) (g : Nat) (W : Nat → Shared → Prop) (Fin Stop : Shared → Prop) (s5 : Shared), s5.heap.IsGen a g → Zz X.prog X.w X.A.in1 g al W Fin Stop n s5 →
      (∀ n s, Zz X.prog X.w X.A.in1 g al W Fin Stop n s → ∀ (Qn : Option Value → Shared → Prop), (∀ s', EP X pins σ Q (.bool al) s' → Qn none s') → (∀ m s₁, m < n → Zz X.prog X.w X.A.in1 g al W Fin Stop m s₁ → Qn (some (.bool al)) s₁) →
        (∀ b s', b ≠ al → EP X pins σ Q (.bool (!al)) s' → Qn (some (.bool b)) s') → wpAny (model X.prog X.w) X.A.in1 (pyNext (.ref a)) Qn (fun _ _ => False) s) → Qf (.ref a) s5) :
    wpAny (model X.prog X.w) X.A (eval (.GeneratorExp elt [⟨tg, iter, ifs, 0⟩] scope gpos) X.env) Qf X.xe s := by
  have hfree : ∀ y ∈ scope.names, y.2 = .free → ∃ c, X.env.cells.lookup y.1 = some c := fun y hy e => by
    rcases ok.free y hy e with k | k
    · exact I.ok.has _ (.inl k)
    · exact I.ok.has _ (.inr k)
  refine wpAny_GeneratorExp_make hco (closure_ok hfree) hcell hdot ok.kind (by have := hr.dp; omega) ?_ hs
  refine thn (hi.run pins s σ H _ I h) fun xv s1 hx => thn hx fun itv s2 h2 => ?_
  obtain ⟨it, fp, tn, J, H2, rfl, I2, T, st2, f2, ⟨ps, hP, htr⟩, q⟩ := h2
  have hPs : s2.heap.get? P = some { cls := .none, data := .fields ps } := I2.hok P _ hP
  have cd : PySem.W.CodeHd s2.heap c P := TB.code.keeps I2.bk
  have fpP : ∀ b ∈ fp, b ≠ P := fun b hb z => by
    have := (f2 b hb).1
    rw [z, hP] at this; cases this
  have cont : ∀ (code : Value) (h3 : Heap) (tk : Nat) (ps' : Array Value), Heap.ExtBut P s2.heap h3 → s2.heap.objs.size ≤ h3.objs.size → h3.get? P = some { cls := .none, data := .fields ps' } → (∃ more, ps' = ps ++ more) → TriplesOk ps'.toList →
      wpAny (model X.prog X.w) X.A (builtinsFor X.env.globals X.env.builtins) (fun bi s₄ =>
        ∀ h', h'.Ns s₄.heap.objs.size (fun y => if y = ".0" then some (.ref it) else none) → Heap.SameBut s₄.heap.objs.size (s₄.heap.push { cls := .type "frame", data := .dict #[] }) h' →
          Qf (.ref h'.objs.size) { s₄ with
            gens := s₄.gens.push (.fresh (.compStart (.GeneratorExp elt [⟨tg, iter, ifs, 0⟩] scope gpos) 0 (.ref it) .none (genEnv scope (cloFrom X.env.cells scope.names []) s₄.heap.objs.size code bi X.env))),
            toks := s₄.toks + 1 + 1 + 1,
            heap := h'.push { cls := .type "generator", data := .fields #[.int s₄.gens.size 0, .str "<genexpr>" (s₄.toks + 1), .str (X.env.qual ++ "<genexpr>") (s₄.toks + 1 + 1)] } }) X.xe { s2 with heap := h3, toks := tk } := by
    rintro code h3 tk ps' hx hsz hP3 ⟨more, rfl⟩ ht3
    generalize hs3 : ({ s2 with heap := h3, toks := tk } : Shared) = s3
    have e3 : s3.heap = h3 := by rw [← hs3]
    have I3 : Inv X pins σ (upd H2 P (.tbl (ps ++ more))) s3 := by
      rw [← hs3]
      exact inv_tab (g' := s2.gens) (d' := s2.drawn) (t' := tk) I2 hP (fun b o hb e => hx b o hb e) hP3 I2.bare
    obtain ⟨W, ⟨m0, w0⟩, nz, turn⟩ := q _ ⟨⟨ps ++ more, upd_same, ht3⟩, fun b hb => upd_ne hb⟩
    generalize hH3 : upd H2 P (.tbl (ps ++ more)) = H3 at I3 w0
    have hH3b : ∀ b, b ≠ P → H3 b = H2 b := fun b hb => by rw [← hH3]; exact upd_ne hb
    have f3 : ∀ b ∈ fp, FpOk X pins H3 b ∧ b < s3.heap.objs.size := fun b hb => by
      obtain ⟨o, e, _⟩ := T.obj _ _ st2 b hb
      refine ⟨⟨(hH3b b (fpP b hb)).trans (f2 b hb).1, (f2 b hb).2⟩, ?_⟩
      rw [e3]; exact Nat.lt_of_lt_of_le (Heap.lt_size e) hsz
    have st3 : tn 0 s3.heap := T.keep _ _ _ st2 fun b hb o e => by rw [e3]; exact hx b o (fpP b hb) e
    obtain ⟨bm, ob, b1, b2, b3, b4, b5, b6, b7, b8⟩ := TB.bm
    refine wpAny_builtinsFor (m := X.mg) (by rw [I.ok.glob]; exact I3.mod.glob.keeps I3.bk) b1 b2 (I3.bk _ _ b5) b6 b7 b8 ?_
    intro h' hn' hs'
    have hsz' : h'.objs.size = s3.heap.objs.size + 1 := by rw [hs'.1, Heap.size_push]
    have keep' : ∀ b o, s3.heap.get? b = some o → h'.get? b = some o := fun b o e => hs'.extBut b o (Nat.ne_of_lt (Heap.lt_size e)) (Heap.get?_push_of_some _ e)
    generalize hog : ({ cls := .type "generator", data := .fields #[.int s3.gens.size 0, .str "<genexpr>" (s3.toks + 1), .str (X.env.qual ++ "<genexpr>") (s3.toks + 1 + 1)] } : Obj) = og
    generalize hgc : (genEnv scope (cloFrom X.env.cells scope.names []) s3.heap.objs.size code builtinsNs X.env) = ce
    have cL : ce.locals = s3.heap.objs.size := by subst hgc; rfl
    generalize hs5 : ({ s3 with gens := s3.gens.push (.fresh (.compStart (.GeneratorExp elt [⟨tg, iter, ifs, 0⟩] scope gpos) 0 (.ref it) .none ce)), toks := s3.toks + 1 + 1 + 1, heap := h'.push og } : Shared) = s5
    have e5 : s5.heap = h'.push og := by rw [← hs5]
    have keep5 : ∀ b o, s3.heap.get? b = some o → s5.heap.get? b = some o := fun b o e => by rw [e5]; exact Heap.get?_push_of_some _ (keep' b o e)
    have ag : s5.heap.get? h'.objs.size = some og := by rw [e5]; exact Heap.get?_push_size _ (by subst hog; rfl)
    have I5 : Inv (genX X s3 H3 ce fp [(h'.objs.size, og)]) [] (wipe σ (own.map (·.2))) H3 s5 := by
      have z := gen_start (code := code) (h5 := h'.push og) (g5 := s3.gens.push (.fresh (.compStart (.GeneratorExp elt [⟨tg, iter, ifs, 0⟩] scope gpos) 0 (.ref it) .none ce))) (t5 := s3.toks + 1 + 1 + 1) I3 hr.hd ok hN hcell f3
        (fun b o e => Heap.get?_push_of_some _ (keep' b o e)) (hn'.push _) (a := h'.objs.size) (og := og) (by rw [← e5]; exact ag) (by omega) (fun v z => by rw [← hog] at z; cases z) (I3.bare.push rfl)
      rw [hgc] at z
      rw [← hs5]
      exact z
    have pg := hg s3 H3 s3.heap.objs.size (cloFrom X.env.cells scope.names []) code fp [(h'.objs.size, og)]
    have pt := ht s3 H3 s3.heap.objs.size (cloFrom X.env.cells scope.names []) code fp [(h'.objs.size, og)]
    have pe := he s3 H3 s3.heap.objs.size (cloFrom X.env.cells scope.names []) code fp [(h'.objs.size, og)]
    rw [hgc] at pg pt pe
    have fpa : ∀ b ∈ fp, h'.objs.size ≠ b := fun b hb z => by
      have h1 := (f3 b hb).2
      rw [← z, hsz'] at h1
      exact absurd h1 (Nat.not_lt_of_le (Nat.le_succ _))
    have stat : ∀ {σ' : L2.St} {H' : Hp} {s' : Shared}, Inv (genX X s3 H3 ce fp [(h'.objs.size, og)]) [] σ' H' s' → (∀ b ∈ fp, H' b = none) → ∀ b ∈ fp, FpOk (genX X s3 H3 ce fp [(h'.objs.size, og)]) [] H' b := fun {σ' H' s'} I' hn b hb =>
      ⟨hn b hb, (I'.ok.exf b hb).1, I'.ok.exfs b hb, .inl hb, fun x c e => (I'.ok.exf b hb).2 x c e, fun p hp => by
        have hp' : p = (h'.objs.size, og) := by simpa using (show p ∈ [(h'.objs.size, og)] ++ [] from hp)
        subst hp'; exact fpa b hb⟩
    -- ready for a turn
    generalize hWW : (fun (k : Nat) (s' : Shared) => ∃ i H', Inv (genX X s3 H3 ce fp [(h'.objs.size, og)]) [] (wipe σ (own.map (·.2))) H' s' ∧ tn i s'.heap ∧ (∀ b ∈ fp, H' b = none) ∧ W i k H') = WW
    have back : ∀ {q : Hp → Prop} {s' : Shared} {v : V} {u : Value}, RelV v u → (∀ H', q H' → Q v H') → Out2 X s3 H3 fp q s' → EP X pins σ Q u s' := fun {q s' v u} rv hq ⟨H', o1, o2, o3, o4, o5⟩ =>
      ⟨v, H', I3.call' (ch := fp) o1 o2 o3 o4 fun b hb => ⟨(f3 b hb).1.2.2.2.1, (f3 b hb).1.2.1, (f3 b hb).1.2.2.2.2.1, (f3 b hb).1.2.2.2.2.2⟩, rv, hq H' o5⟩
    have leave : ∀ {q : Hp → Prop} {σ' : L2.St} {pp : List (Addr × Obj)} {H' : Hp} {s' : Shared}, Inv (genX X s3 H3 ce fp [(h'.objs.size, og)]) pp σ' H' s' → q H' → Out2 X s3 H3 fp q s' := fun {q σ' pp H' s'} I' hq => ⟨H', I'.os, I'.base, I'.hok, I'.bare, hq⟩
    have isg : s5.heap.IsGen h'.objs.size s3.gens.size := ⟨og, _, _, ag, by rw [← hog], by rw [← hog], by rw [← hog]⟩
    have TU : ∀ k s', WW k s' → wpAny (model X.prog X.w) ((X.A.in1.in1).deeper ce) (pyNext (.ref it)) (fun r s1 => match r with
      | none => Out2 X s3 H3 fp (fun H' => Q (.bl al) H') s1
      | some v => wpAny (model X.prog X.w) ((X.A.in1.in1).deeper ce) (letOwnedTupleGo tg (.ref it) v) (fun _ s2 => wpAny (model X.prog X.w) ((X.A.in1.in1).deeper ce) (assign tg ce v) (fun _ s3' =>
          wpAny (model X.prog X.w) ((X.A.in1.in1).deeper ce) (forIn ifs true fun c r => if r = true then do let ok ← isTrue c ce (eval c ce); pure (ForInStep.yield ok) else pure (ForInStep.yield r)) (fun ok s4 =>
            if ok = true then wpAny (model X.prog X.w) ((X.A.in1.in1).deeper ce) (eval elt ce) (fun y s5 => ∃ b, y = .bool b ∧ (b = al → ∃ m, m < k ∧ WW m s5) ∧ (b ≠ al → Out2 X s3 H3 fp (fun H' => Q (.bl (!al)) H') s5)) (fun _ _ => False) s4
            else ∃ m, m < k ∧ WW m s4) (fun _ _ => False) s3') (fun _ _ => False) s2) (fun _ _ => False) s1) (fun _ _ => False) s' := by
      intro n s6 hW
      rw [← hWW] at hW
      obtain ⟨i, H5, I6, st6, n6, w6⟩ := hW
      rcases turn i n H5 w6 with ⟨stop, qq⟩ | ⟨go, Nx, hNx, step⟩
      · have td := T.done (genX X s3 H3 ce fp [(h'.objs.size, og)]) rfl rfl rfl rfl i [] s6 _ H5 (fun _ _ => False) I6 (stat I6 n6) st6 stop
        refine thnF td fun r s7 ⟨hr, I7⟩ => ?_
        subst hr
        exact leave I7 qq
      · have ti := T.item (genX X s3 H3 ce fp [(h'.objs.size, og)]) rfl rfl rfl rfl i [] s6 _ H5 (fun _ _ => False) I6 (stat I6 n6) st6 go
        refine thnF ti fun r s7 ⟨u, hr, h6⟩ => ?_
        subst hr
        refine thnF h6 fun _ s8 ⟨x, H7, I7, r7, y7, st7, n7⟩ => ?_
        have I7' := I7.pinned (stat I7 n7) (T.obj _ _ st7)
        refine thnF (pg.run _ s8 _ H7 x u _ I7' r7 (step x H7 y7)) fun _ s9 ⟨σ8, H8, I8, hw8, q8⟩ => ?_
        refine thnF (pt.run _ s9 σ8 H8 _ I8 q8) fun b s10 ⟨H9, I9, q9⟩ => ?_
        have fin : ∀ {s' : Shared} {H' : Hp}, Inv (genX X s3 H3 ce fp [(h'.objs.size, og)]) ([] ++ pinsAt fp s8.heap) σ8 H' s' → Nx H' → ∃ m, m < n ∧ WW m s' := fun {s' H'} I' nx => by
          obtain ⟨m', hm, w'⟩ := hNx H' nx
          have pin' : ∀ b ∈ fp, ∀ o, s8.heap.get? b = some o → s'.heap.get? b = some o ∧ H' b = none := fun b hb o e =>
            let z := I'.pin (b, o) (List.mem_append_right _ (List.mem_append_right _ (mem_pinsAt hb e)))
            ⟨z.1, z.2.1⟩
          have hl : (wipe σ (own.map (·.2))).length = σ8.length := by rw [← hw8, wipe_length]
          refine ⟨m', hm, ?_⟩
          rw [← hWW]
          refine ⟨i + 1, H', (I'.unpinned (pins := [])).weak hl (fun j v e => ?_), T.keep _ _ _ st7 fun b hb o e => (pin' b hb o e).1, fun b hb => ?_, w'⟩
          · rw [← hw8] at e
            exact (wipe_some e).1
          · obtain ⟨o, e, _⟩ := T.obj _ _ st7 b hb
            exact (pin' b hb o e).2
        cases b with
        | false =>
          simp only [Bool.false_eq_true, if_false] at q9 ⊢
          exact fin I9 q9
        | true =>
          simp only [if_true] at q9 ⊢
          refine thnF (pe.run _ s10 σ8 H9 _ I9 q9) fun z s11 ⟨yv, H10, I10, r10, cc, hy, h1, h2⟩ => ?_
          subst hy
          obtain rfl : z = Value.bool cc := r10
          exact ⟨cc, rfl, fun e => fin I10 (h1 e), fun e => leave I10 (h2 e)⟩
    have ne0 : ∀ s', ¬ WW 0 s' := fun s' hW => by
      rw [← hWW] at hW
      obtain ⟨i, H', _, _, _, w⟩ := hW
      exact nz i H' w
    have SET : ∀ k s' gs, WW k s' → gs.bare = true → WW k (s'.setGen s3.gens.size gs) := fun k s' gs hW hb => by
      rw [← hWW] at hW ⊢
      obtain ⟨i, H', I', t', n', w'⟩ := hW
      exact ⟨i, H', ⟨I'.ok, I'.os, bare_set I'.bare hb, I'.base, I'.loc, I'.cell, I'.free, I'.freeC, I'.pin, I'.hok, I'.len⟩, t', n', w'⟩
    have HG : ∀ k s', WW k s' → s'.heap.NoLimit ∧ s'.heap.IsGen h'.objs.size s3.gens.size := fun k s' hW => by
      rw [← hWW] at hW
      obtain ⟨i, H', I', t', n', w'⟩ := hW
      obtain ⟨p1, _⟩ := I'.pin (h'.objs.size, og) (by simp)
      exact ⟨I'.nolimit, og, _, _, p1, by rw [← hog], by rw [← hog], by rw [← hog]⟩
    have W5 : WW m0 s5 := by
      rw [← hWW]
      exact ⟨0, H3, I5, T.keep _ _ _ st3 fun b _ o e => keep5 b o e, fun b hb => (f3 b hb).1.1, w0⟩
    have hco' : ce.scope.isCoroutine = false := by subst hgc; exact hco
    refine hQ h'.objs.size m0 s3.gens.size WW (Out2 X s3 H3 fp fun H' => Q (.bl al) H') (Out2 X s3 H3 fp fun H' => Q (.bl (!al)) H') s5 isg ⟨.fresh (.compStart (.GeneratorExp elt [⟨tg, iter, ifs, 0⟩] scope gpos) 0 (.ref it) .none ce), m0, Nat.le_refl _, by rw [← hs5]; exact Array.getElem?_push_size .., W5, fun s'' hW => ⟨rfl, ?_⟩⟩ ?_
    · refine seg_genS (A := X.A.in1.in1) hco' al WW _ _ TU ne0 (fun A Q E hq => ?_) (Nat.le_refl _) hW
      rw [← hWW] at hW
      obtain ⟨i, H', I', t', n', w'⟩ := hW
      exact T.self A i s'' Q E t' hq
    · intro n s' hz Qn q0 q1 q2
      refine gen_next (A := X.A.in1) hr.hd (by have := hr.dp; show X.A.depth < _; omega) HG SET hz (fun s₁ h₁ hf hk => q0 _ (back (q := fun H' => Q (.bl al) H') (v := .bl al) rfl (fun _ z => z) ?_)) q1 (fun b s₁ gs hb hbr hst => q2 b _ hb (back (q := fun H' => Q (.bl (!al)) H') (v := .bl (!al)) rfl (fun _ z => z) ?_))
      · obtain ⟨H', o1, o2, o3, o4, o5⟩ := hf
        exact ⟨H', o1, o2.trans (Un.kept hk), o3.kept hk, bare_set o4 rfl, o5⟩
      · obtain ⟨H', o1, o2, o3, o4, o5⟩ := hst
        exact ⟨H', o1, o2, o3, bare_set o4 hbr, o5⟩
  refine ⟨I2.nolimit, ?_⟩
  cases hf : codeAmong gpos ps.toList with
  | none =>
    refine wpAny_genexprCodeX hcode (cd.code hPs htr) (cd.tab hPs) hf fun c' h' tk hx hge hlt hco' _ htab' _ => ?_
    obtain ⟨o1, vs, f1, tf, fl, tg, inF, tx, tt, op, _, _, _, _, _, _, _, _, _, htr', _⟩ := hco'
    exact cont _ h' tk _ hx (Nat.le_trans hge (Nat.le_of_lt hlt)) htab'.2 ⟨_, rfl⟩ htr'
  | some cv =>
    refine wpAny_genexprCode_hit hcode (cd.code hPs htr) hf ?_
    exact cont cv s2.heap s2.toks ps (Heap.ExtBut.refl _ _) (Nat.le_refl _) hPs ⟨#[], by simp⟩ htr
theorem pe_allG {p pos : Pos} (hr : Room k X.A) (hgl : Gl X "all") (hm : X.mg "all" = none) (hb : bootBuiltins "all" = some (.builtin "all")) (TB : TabB X.base X.mg c P) (hcode : X.env.code = .ref c) (hN : X.N.Nodup) (hi : PI X tg iter wi) (ok : BlkOk X.N X.env.scope scope own)
    (hco : scope.isCoroutine = false) (hcell : ∀ y ∈ scope.names, y.2 ≠ .cell) (hdot : scope.names.lookup (".0" : Str) = some NameKind.local)
    (hg : ∀ (s : Shared) (H : Hp) (C : Addr) (cl : List (Str × Addr)) (code : Value) (fp : List Addr) (pn : List (Addr × Obj)), PG (genX X s H (genEnv scope cl C code builtinsNs X.env) fp pn) tg g)
    (ht : ∀ (s : Shared) (H : Hp) (C : Addr) (cl : List (Str × Addr)) (code : Value) (fp : List Addr) (pn : List (Addr × Obj)), PTs (genX X s H (genEnv scope cl C code builtinsNs X.env) fp pn) ifs tt)
    (he : ∀ (s : Shared) (H : Hp) (C : Addr) (cl : List (Str × Addr)) (code : Value) (fp : List Addr) (pn : List (Addr × Obj)), PE (genX X s H (genEnv scope cl C code builtinsNs X.env) fp pn) elt te) (hs : ∀ x, genFold iter X.env x = pure x)
    (hst : starEach [.GeneratorExp elt [⟨tg, iter, ifs, 0⟩] scope gpos] X.env = (false, eval (.GeneratorExp elt [⟨tg, iter, ifs, 0⟩] scope gpos) X.env) :: starEach [] X.env) :
    PE X (.Call (.Name "all" p) [.GeneratorExp elt [⟨tg, iter, ifs, 0⟩] scope gpos] [] pos) (tGn true P wi g tt te (own.map (·.2))) := by
  refine ⟨fun pins s σ H Q I h => ?_⟩
  refine wpAny_Call_Name_kw (ld_blt I hgl hm hb ?_)
  refine PyProof.Rows.callWith_builtin1 ?_ hst (by rfl)
  rw [hst]
  show wpAny _ _ (spliced ((false, eval (.GeneratorExp elt [⟨tg, iter, ifs, 0⟩] scope gpos) X.env) :: backTo pos (starEach [] X.env))) _ _ s
  refine Calls.spliced_cons (gen_core hr TB hcode hN I hi ok hco hcell hdot hg ht he hs h fun a n g W Fin Stop s5 isg hz nxt => ?_)
  refine Calls.spliced_nil ?_
  refine call_function_tree F.kind_all F.plain_all F.entry_all (F.args_all1 _) ?_
  unfold Builtin.«all»
  refine wpAny_bind (m := oneArg "all" _) (wpAny_pure ?_)
  refine wpAny_bind (wpAny_pyIter_gen isg ?_)
  refine wpAny_pure ⟨plainId_quiet F.plain_all_loop _, all_loop (fun n s => Zz X.prog X.w X.A.in1 g true W Fin Stop n s) (fun n s hz => nxt n s hz _ (fun s' e => e) (fun m s₁ hm hz => ⟨true, rfl, fun _ => ⟨m, hm, hz⟩, fun z => absurd rfl z⟩) (fun b s' hb e => ⟨b, rfl, fun z => absurd z hb, fun _ => e⟩)) n s5 hz⟩
end
end EV
set_option maxHeartbeats 2000000
namespace EV
open PySem PySem.Spec PyProof.Rows L2 GxR
def gnE (al : Bool) (src : Src) (g : FG) (t : FT) (fe : FE) (ρ : Rho) : Nat → Nat → Hpe → Res W
  | 0, _, _ => .no
  | k + 1, i, h => match src h i with
    | none => .no
    | some none => .ok (.bl al) h
    | some (some w) => match g w ρ h with
      | .nx ρ' h1 => match t ρ' h1 with
        | .ok b h2 => bif b then (match fe ρ' h2 with
            | .ok (.bl c) h3 => bif c == al then gnE al src g t fe ρ k (i + 1) h3 else .ok (.bl (!al)) h3
            | _ => .no) else gnE al src g t fe ρ k (i + 1) h2
        | _ => .no
      | _ => .no
def eGn (al : Bool) (fi : FI) (g : FG) (t : FT) (fe : FE) (vs : List Nat) : FE := fun ρ h => (fi ρ h).bind fun src h1 => gnE al src g t fe (wipeR ρ vs) 1000000 0 h1
theorem tab_grow {G : GC} {m : Nat → Addr} {h : Hpe} {H H' : Hp} {P : Addr} (rh : RH G m h H) (hP : P ∈ G.tabs) (t : Tabbed P H H') (hl : P ∉ G.ltabs) : RH G m h H' ∧ Mv m h.nx H m h.nx H' := by
  obtain ⟨ps, eP, _⟩ := rh.tab P hP
  obtain ⟨⟨qs, eQ, tQ⟩, ne⟩ := t
  have hm : ∀ i, i < h.nx → m i ≠ P := fun i hi z => by
    obtain ⟨o, ho, _, e, r⟩ := rh.obj i hi
    rw [z, eP] at e; cases e
    exact r.notup.2.2 _ rfl
  have tk : TupK H H' := fun a xs q => by
    rcases q with q | ⟨ob, q⟩
    · exact .inl ((ne a fun z => by rw [z, eP] at q; cases q).trans q)
    · exact .inr ⟨ob, (ne a fun z => by rw [z, eP] at q; cases q).trans q⟩
  refine ⟨⟨rh.sz, rh.inj, fun i hi => ?_, fun P' hP' => ?_, fun P' hP' => ?_⟩, Nat.le_refl _, fun _ _ => rfl, fun i a b => absurd a (Nat.not_le_of_lt b), fun b o e _ => ?_, fun i hi ob u e => (ne _ (hm i hi)).trans e⟩
  · obtain ⟨o, ho, e1, e2, r⟩ := rh.obj i hi
    exact ⟨o, ho, e1, (ne _ (hm i hi)).trans e2, r.mono (fun _ _ => rfl) (Nat.le_refl _) tk⟩
  · by_cases c : P' = P
    · subst c; exact ⟨qs, eQ, tQ⟩
    · obtain ⟨rs, e, t⟩ := rh.tab P' hP'
      exact ⟨rs, (ne P' c).trans e, t⟩
  · exact (rh.ltab P' hP').keep (fun ps e => (ne P' fun z => hl (z ▸ hP')).trans e) fun b q e nb => ⟨(ne b fun z => by rw [z, eP] at e; unfold LamX.CodeO at e; cases e).trans e, nb⟩
  · by_cases c : b = P
    · subst c
      rw [eP] at e; cases e
      exact .inr ⟨ps, qs, rfl, eQ⟩
    · exact .inl ((ne b c).trans e)
section
variable {X : Cx} {B : Bx} {tg elt iter : Expr} {ifs : List Expr} {fe : FE} {ft : FT} {fi : FI} {g : FG} {us vs : List Nat} {c P : Addr} {scope : Scope} {own : List (Str × Nat)} {p pos gpos : Pos} {k : Nat}
theorem gn_ok {al : Bool} {σ : L2.St} {H : Hp} {Q : VK} (hP : P ∈ B.G.tabs) (hlt : P ∉ B.G.ltabs) (hvs : ∀ i ∈ us, i ∈ vs) (i0 : tE B.G B.cf B.cl B.W (eGn al fi g ft fe vs) σ H Q) : tGn al P (tI B fi) (tG B.nox g us) (tT B.nox.G B.nox.cf B.nox.cl B.nox.W ft) (tE B.nox.G B.nox.cf B.nox.cl B.nox.W fe) vs σ H Q := by
  obtain ⟨m, h, ρ, s, o⟩ := i0
  refine ⟨m, h, ρ, s, (Out.bind s.rh o).mono fun J H1 ⟨src, m1, h1, r1, v1, its, o1⟩ => ⟨r1.tab P hP, fun H1' tb => ?_⟩⟩
  obtain ⟨rT, vT⟩ := tab_grow r1 hP tb hlt
  have tkT : TupK H1 H1' := vT.tupk r1
  have s1 : SS B.G B.cf m1 h1 ρ σ H1' := (s.mv r1 v1).mv rT vT
  refine ⟨fun i k H' => ∃ m' h', RH B.G m' h' H' ∧ Mv m1 h1.nx H1' m' h'.nx H' ∧ Out B.G B.cl (RW B.G) (fun c d H2 => B.W c d σ H2) m1 h1 H1' (gnE al src g ft fe (wipeR ρ vs) k i h') Q,
    ⟨1000000, m1, h1, rT, Mv.refl, Out.shift r1 rT vT o1⟩, fun i H ⟨_, _, _, _, o⟩ => o, ?_⟩
  rintro i k H' ⟨m2, h2, r2, v2, o2⟩
  cases k with
  | zero => exact o2.elim
  | succ k =>
    obtain ⟨i1, i2⟩ := its m2 h2 H' i r2 v2.old v2.le (TupK.trans tkT (v2.tupk rT)) (fun j hj ob u e => v2.kf j hj ob u (vT.kf j hj ob u e))
    simp only [gnE] at o2
    cases c : src h2 i with
    | none => rw [c] at o2; exact o2.elim
    | some c' =>
      rw [c] at o2
      cases c' with
      | none => exact .inl ⟨i1 c, o2 m2 H' _ r2 v2 (.bl al)⟩
      | some w =>
        obtain ⟨go, yl⟩ := i2 w c
        refine .inr ⟨go, fun H3 => ∃ m' h', RH B.G m' h' H3 ∧ Mv m1 h1.nx H1' m' h'.nx H3 ∧ Out B.G B.cl (RW B.G) (fun c d H2 => B.W c d σ H2) m1 h1 H1' (gnE al src g ft fe (wipeR ρ vs) k (i + 1) h') Q, fun H3 z => ⟨k, Nat.lt_succ_self k, z⟩, fun x H3 y => ?_⟩
        obtain ⟨r3, v3, q3⟩ := yl x H3 y
        have t3 : Mv m1 h1.nx H1' m2 h2.nx H3 := v2.trans (r2.mv_ne v2) v3
        have s3 : SS B.G B.cf m2 h2 (wipeR ρ vs) (L2.wipe σ vs) H3 := ((s1.mv r2 v2).mv r3 v3).wipe vs
        refine ⟨m2, h2, wipeR ρ vs, w, s3, q3, ?_⟩
        cases cg : g w (wipeR ρ vs) h2 with
        | nx ρ4 h4 =>
          simp only [cg] at o2
          intro m4 H4 σ4 s4 v4 oth
          refine ⟨by rw [(oth.sub hvs).wipe, DL.wipe_wipe], m4, h4, ρ4, s4, ?_⟩
          cases ct : ft ρ4 h4 with
          | ok b h5 =>
            simp only [ct] at o2
            intro m5 H5 b' r5 v5 eb
            subst eb
            have v35 : Mv m2 h2.nx H3 m5 h5.nx H5 := v4.trans (s4.rh.mv_ne v4) v5
            have t5 : Mv m1 h1.nx H1' m5 h5.nx H5 := t3.trans (r3.mv_ne t3) v35
            cases b with
            | false => rw [if_neg (by decide)]; exact ⟨m5, h5, r5, t5, o2⟩
            | true =>
              rw [if_pos rfl]
              have s5 : SS B.G B.cf m5 h5 ρ4 σ4 H5 := s4.mv r5 v5
              refine ⟨m5, h5, ρ4, s5, ?_⟩
              cases ce : fe ρ4 h5 with
              | ok z h6 =>
                simp only [ce, cond_true] at o2
                intro m6 H6 u r6 v6 q6
                have t6 : Mv m1 h1.nx H1' m6 h6.nx H6 := t5.trans (r5.mv_ne t5) v6
                cases z <;> try exact o2.elim
                rename_i cc
                obtain rfl := asB_ok q6
                refine ⟨cc, rfl, fun e => ?_, fun e => ?_⟩
                · subst e
                  simp only [beq_self_eq_true, cond_true] at o2
                  exact ⟨m6, h6, r6, t6, o2⟩
                · have : (cc == al) = false := by simpa using e
                  simp only [this, cond_false] at o2
                  exact o2 m6 H6 _ r6 t6 (.bl _)
              | ex _ _ => simp only [ce, cond_true] at o2; exact o2.elim
              | no => simp only [ce, cond_true] at o2; exact o2.elim
          | ex _ _ => simp only [ct] at o2; exact o2.elim
          | no => simp only [ct] at o2; exact o2.elim
        | ex _ _ _ => simp only [cg] at o2; exact o2.elim
        | no => simp only [cg] at o2; exact o2.elim
        | rt _ _ => simp only [cg] at o2; exact o2.elim
        | bk _ _ => simp only [cg] at o2; exact o2.elim
        | ct _ _ => simp only [cg] at o2; exact o2.elim
structure GnC (X : Cx) (B : Bx) (c P : Addr) : Prop where
  tb : TabB X.base X.mg c P
  tab : P ∈ B.G.tabs
  nl : P ∉ B.G.ltabs
theorem se_allG (hr : Room k X.A) (hgl : Gl X "all") (hm : X.mg "all" = none) (hb : bootBuiltins "all" = some (.builtin "all")) (C : GnC X B c P) (hcode : X.env.code = .ref c) (hN : X.N.Nodup) (hi : SI X B tg iter fi) (ok : BlkOk X.N X.env.scope scope own)
    (hco : scope.isCoroutine = false) (hcell : scope.names.all (fun y => decide (y.2 ≠ .cell)) = true) (hdot : scope.names.lookup (".0" : Str) = some NameKind.local)
    (hg : ∀ (s : Shared) (H : Hp) (C : Addr) (cl : List (Str × Addr)) (code : Value) (fp : List Addr) (pn : List (Addr × Obj)), SG (genX X s H (genEnv scope cl C code builtinsNs X.env) fp pn) B.nox tg g us)
    (ht : ∀ (s : Shared) (H : Hp) (C : Addr) (cl : List (Str × Addr)) (code : Value) (fp : List Addr) (pn : List (Addr × Obj)), STs (genX X s H (genEnv scope cl C code builtinsNs X.env) fp pn) B.nox ifs ft)
    (he : ∀ (s : Shared) (H : Hp) (C : Addr) (cl : List (Str × Addr)) (code : Value) (fp : List Addr) (pn : List (Addr × Obj)), SE (genX X s H (genEnv scope cl C code builtinsNs X.env) fp pn) B.nox elt fe)
    (hus : ∀ i ∈ us, i ∈ own.map (·.2)) (hs : ∀ x, genFold iter X.env x = pure x) (hst : starEach [.GeneratorExp elt [⟨tg, iter, ifs, 0⟩] scope gpos] X.env = (false, eval (.GeneratorExp elt [⟨tg, iter, ifs, 0⟩] scope gpos) X.env) :: starEach [] X.env) :
    SE X B (.Call (.Name "all" p) [.GeneratorExp elt [⟨tg, iter, ifs, 0⟩] scope gpos] [] pos) (eGn true fi g ft fe (own.map (·.2))) :=
  pe_imp (pe_allG hr hgl hm hb C.tb hcode hN hi ok hco (fun y hy => of_decide_eq_true (List.all_eq_true.mp hcell y hy)) hdot hg ht he hs hst) fun σ H Q i => gn_ok C.tab C.nl hus i
end
theorem room_gen {k : Nat} {A : Around} (r : Room (k + 1) A) (env : PySem.Env) : Room k (A.in1.in1.deeper env) :=
  ⟨r.hd, by have := r.dp; show A.depth + 1 + 3 * k + 5 < _; omega, by have := r.un; show A.units + 1 + 1 + 3 + 16 * k + 200 < _; omega⟩
structure FunC (K : PySem.W.Frag) (x qual : Str) (st : Stmt) (f : Addr) (fd : FuncData) (c : Addr) : Prop where
  ex : ∃ (oc : Value) (od : Option Addr) (kV doc pm : Value) (an : Option Addr) (ct : Value) (osl : Array (Option Value)),
    fd = PySem.W.fnOf x qual (defArgs st) (defBody st) (defScope st) .none kV doc pm an (.ref c) ct ∧ K.lookup f = some ⟨oc, od, .func fd, osl⟩ ∧ PySem.W.codeIn K (.ref c) qual = true
theorem ok_EC {P : Program} {w : World} {K : PySem.W.Frag} {mg : Str → Option Value} {base : Heap} {G : GC} {cl : Cls} {x qual : Str} {st : Stmt} {f : Addr} {fd : FuncData} {c : Addr} {N ps : List Str} {k : Nat} {fs : FS} (F : FunC K x qual st f fd c) (S : FnScope N ps (defScope st))
    (hbody : ∀ (A : Around) (outer : List PySem.Env) (s : Shared) (H : Hp) (E : XK), Room k (A.deeper (envOfC qual (defScope st) s.heap.objs.size f (.ref c))) →
      SSs (cxOf (L2.CX P w) P w K mg base N qual (defScope st) f (.ref c) A outer s H E) ⟨G, cl, fun c d _ H' => E c d H', CfAt G s H (frs outer)⟩ (defBody st) fs) : FnE P w K mg base (k + 1) f fd ps G cl (runB N.length fs) := by
  obtain ⟨oc, od, kV, doc, pm, an, ct, osl, rfl, lk, hcd⟩ := F.ex
  refine ⟨fun A outer s H args us vs Q E hr e0 hb r ⟨m, h, ws, rh, rs, e, o⟩ => ?_⟩
  exact LamX.run_ofS lk hcd S hr e0 hb r (by rw [← rs.len, e]) fun hr' => ⟨_, hbody A outer s H E hr', m, h, _, ss_start rh rs N.length, run_end o⟩
end EV
set_option maxHeartbeats 4000000
namespace EV
open PySem PySem.Spec PyProof.Rows L2
structure BaseE (B newId initId : String) (bm : List Value) : Prop where
  fb : ExcBaseFacts B newId initId bm
  pass : ∀ self : Value, refuseLoop self "__setattr__" bm = pure ()
  obj : bm.contains (.type "object") = true
  ty : typeOf (.type B) = pure (.type "type")
structure OwnE (K : PySem.W.Frag) (C : Addr) (newId : String) (bm : List Value) : Prop where
  cls : ∃ nm q N bs sn sub ab col dd k0 k1 k2 k3 k5, K.lookup C = some (excClassObj nm q C N bs bm true sn sub ab col dd k0 k1 k2 k3 k5 newId)
  sa : PySem.W.findIn K (.ref C) "__setattr__" = some (some (.builtin "object.__setattr__"))
  exC : PySem.W.subIn K (.ref C) (.type "BaseException") = some true
  tyC : PySem.W.typeIn K (.ref C) = some (.type "type")
  kC : PySem.W.keepIn K (.ref C) = true
section
open Builtin Builtin.ObjectAttr
variable {prog : Program} {w : World} {A : Around} {R : Result → Shared → Prop} {hp : Heap} {g : Array GenState} {d : Drawn} {t : Nat} {os : OsState}
end
section
variable {X : Cx} {pins : List (Addr × Obj)} {σ : L2.St} {H : Hp} {s : Shared} {a C dx : Addr} {f : Str} {y : V} {u : Value} {Q : Unit → Shared → Prop} {E : Value → Shared → Prop} {A : Around} {B newId initId : String} {bm : List Value}
end
end EV
namespace EV
open PySem PySem.Spec PyProof.Rows L2
section
variable {X : Cx} {o e : Expr} {es : List Expr} {to te : TE} {ta : TA} {f x : Str} {p p' p1 p2 pos : Pos} {B newId initId : String} {bm : List Value}
end
def spI (C : Addr) (f : Str) : Sp := fun vs H Q _ => ∃ (a : Addr) (i : Int), vs = [.ref a, .int i] ∧ i.natAbs.log2 < 1920 ∧ H a = some (exo a C none) ∧ ∀ dx, H dx = none → dx ≠ a → Q .non (upd (upd H dx (exd dx [(f, .int i)])) a (exo a C (some dx)))
end EV
namespace EV
open PySem PySem.Spec PyProof.Rows L2
structure ExI (P : Program) (w : World) (K : PySem.W.Frag) (mg : Str → Option Value) (base : Heap) (cl : Cls) (x f : Str) (k : Nat) : Prop where
  ex : ∃ C B newId initId bm fI fd ps, BaseE B newId initId bm ∧ OwnE K C newId bm ∧ mg x = some (.ref C) ∧ cl k = some (.ref C) ∧ PySem.W.findIn K (.ref C) "__init__" = some (some (.ref fI)) ∧ PySem.W.typeIn K (.ref fI) = some (.type "function") ∧
    FnOk P w K mg base (L2.CX P w) 1 fI fd ps (spI C f) ∧ Binds K fd ps []
section
variable {X : Cx} {B : Bx} {e : Expr} {es : List Expr} {fs : FA} {p pos pos' : Pos} {x f : Str} {k j : Nat}
end
end EV
namespace EV
open PySem PySem.Spec PyProof.Rows L2
abbrev Cl3 := Value × Option Nat × (Addr → Value → Option Addr → TS)
def endsAs (i : Nat) (D : Ends) : Ends := { nx := fun σ' H' => D.nx (σ'.set i none) H', rt := D.rt, bk := fun σ' H' => D.bk (σ'.set i none) H', ct := fun σ' H' => D.ct (σ'.set i none) H' }
def runC (D : Ends) (a : Addr) (cls : Value) (d : Option Addr) (σ : L2.St) (H : Hp) : Option Nat → (Addr → Value → Option Addr → TS) → Prop
  | none, ts => ts a cls d D σ H
  | some i, ts => ts a cls d (endsAs i D) (σ.set i (some (.ref a))) H
def wMix (K : PySem.W.Frag) (Wout : WX) (D : Ends) : List Cl3 → WX
  | [] => Wout
  | c :: r => fun cls d σ H => ∃ b, PySem.W.exmOne K cls c.1 = some b ∧ (b = true → ∀ a, H a = none → runC D a cls d σ H c.2.1 c.2.2) ∧ (b = false → wMix K Wout D r cls d σ H)
inductive HdsM (X : Cx) : List ExceptHandler → List Cl3 → Prop
  | nil : HdsM X [] []
  | cons {x : Str} {on : Option Str} {oi : Option Nat} {c : Value} {ts : Addr → Value → Option Addr → TS} {b₀ : Stmt} {suite : List Stmt} {np pos' : Pos} {hds : List ExceptHandler} {l : List Cl3} (hc : Names X x c)
      (hn : (on = none ∧ oi = none) ∨ ∃ n i, on = some n ∧ oi = some i ∧ X.N[i]? = some n ∧ X.env.kindOf n = some .local)
      (hsu : ∀ (a : Addr) (oe : Obj) (cls : Value) (d : Option Addr) (pn : List (Addr × Obj)), Zc cls d oe → (∃ vs, oe.data = .fields vs) → PSs (X.suite a ((a, oe) :: pn)) (b₀ :: suite) (ts a cls d)) (r : HdsM X hds l) :
      HdsM X (.ExceptHandler (some (.Name x np)) on (b₀ :: suite) pos' :: hds) ((c, oi, ts) :: l)
section
variable {X : Cx} {body : List Stmt} {h₀ : ExceptHandler} {hds : List ExceptHandler} {l : List Cl3} {pos : Pos} {tb : WX → TS} {Wout : WX}
end
end EV
namespace EV
open PySem PySem.Spec PyProof.Rows L2
abbrev FX := EV.Exc → FE
abbrev FXA := EV.Exc → FA
abbrev FXS := EV.Exc → FS
structure Er where
  a : Addr
  cls : Value
  d : Option Addr
  i : Nat
  k : Nat
def HasE (B : Bx) (R : Er) (m : Nat → Addr) (h : Hpe) (σ : L2.St) (H : Hp) (x : EV.Exc) : Prop := σ[R.i]? = some (some (.ref R.a)) ∧ x.cls = R.k ∧ ExR B.G B.cl m h.nx H x R.cls R.d
def tXS (B : Bx) (R : Er) (f : FXS) : TS := fun D σ H => ∃ m h ρ x, SS B.G B.cf m h ρ σ H ∧ HasE B R m h σ H x ∧ OutS B.nox m h H D (f x ρ h)
def SXs (X : Cx) (B : Bx) (R : Er) (st : List Stmt) (f : FXS) : Prop := PSs X st (tXS B R f)
structure ExV (K : PySem.W.Frag) (cl : Cls) (k : Nat) : Prop where
  c : ∀ c, cl k = some c → ∃ D, c = .ref D ∧ ExcC K D
theorem HasE.mv {B : Bx} {R : Er} {m m1 : Nat → Addr} {h h1 : Hpe} {σ : L2.St} {H H1 : Hp} {x : EV.Exc} (e : HasE B R m h σ H x) (rh : RH B.G m h H) (v : Mv m h.nx H m1 h1.nx H1) : HasE B R m1 h1 σ H1 x :=
  ⟨e.1, e.2.1, e.2.2.mono v.old v.le (v.tupk rh) fun dx kus q => v.stay q (fun i hi z => by
    obtain ⟨o, ho, _, e1, r⟩ := rh.obj i hi
    rw [z, q] at e1; cases e1; cases r) fun _ z => by cases z⟩
section
variable {X : Cx} {B : Bx} {R : Er} {oe : Obj} {pn : List (Addr × Obj)} {a b c e : Expr} {es : List Expr} {f fa fb fc : FX} {fs : FXA} {g : FE} {pos p p2 : Pos} {n x y : Str} {j : Nat}
end
def RS.unset (i : Nat) : RS → RS
  | .nx ρ h => .nx (ρ.set i none) h
  | .bk ρ h => .bk (ρ.set i none) h
  | .ct ρ h => .ct (ρ.set i none) h
  | .rt w h => .rt w h
  | _ => .no
theorem SS.unset {G : GC} {cf : CF} {m : Nat → Addr} {h : Hpe} {ρ : Rho} {σ : L2.St} {H : Hp} (s : SS G cf m h ρ σ H) (i : Nat) (v : Option V) : SS G cf m h (ρ.set i none) (σ.set i v) H :=
  ⟨s.rh, by rw [List.length_set, List.length_set]; exact s.len, fun k u e => by
    rw [List.getElem?_set] at e
    by_cases c : i = k
    · rw [if_pos c] at e; split at e <;> cases e
    · rw [if_neg c] at e
      obtain ⟨v', e', r'⟩ := s.sl k u e
      exact ⟨v', by rw [List.getElem?_set, if_neg c]; exact e', r'⟩⟩
theorem OutS.unset {B : Bx} {m : Nat → Addr} {h : Hpe} {H : Hp} {D : Ends} {r : RS} {i : Nat} (o : OutS B m h H D (r.unset i)) : OutS B.nox m h H (endsAs i D) r := by
  cases r with
  | nx ρ' h' => exact fun m' H' σ' a b => o m' H' _ (a.unset i none) b
  | bk ρ' h' => exact fun m' H' σ' a b => o m' H' _ (a.unset i none) b
  | ct ρ' h' => exact fun m' H' σ' a b => o m' H' _ (a.unset i none) b
  | rt w h' => exact o
  | ex x ρ' h' => exact o.elim
  | no => exact o
def hdlM : List (Nat × Option Nat × FXS) → EV.Exc → FS
  | [], x, ρ, h => .ex x ρ h
  | (k, none, f) :: r, x, ρ, h => bif Nat.beq x.cls k then (f x ρ h).noX else hdlM r x ρ h
  | (k, some i, f) :: r, x, ρ, h => bif Nat.beq x.cls k then (bif Nat.blt i ρ.length then (f x (ρ.set i none) h).unset i else .no) else hdlM r x ρ h
inductive HM (X : Cx) (B : Bx) : List ExceptHandler → List (Nat × Option Nat × FXS) → Prop
  | nil : HM X B [] []
  | cons {x : Str} {k : Nat} {f : FS} {b₀ : Stmt} {suite : List Stmt} {np pos' : Pos} {hds : List ExceptHandler} {l : List (Nat × Option Nat × FXS)} (hg : Gl X x) (hdb : (x == ("__debug__" : Str)) = false) (C : ExN X.K X.mg B.cl x k)
      (hsu : ∀ (a : Addr) (oe : Obj) (pn : List (Addr × Obj)), SSs (X.suite a ((a, oe) :: pn)) B.nox (b₀ :: suite) f) (r : HM X B hds l) : HM X B (.ExceptHandler (some (.Name x np)) none (b₀ :: suite) pos' :: hds) ((k, none, fun _ => f) :: l)
  | consAs {x n : Str} {k i : Nat} {f : FXS} {b₀ : Stmt} {suite : List Stmt} {np pos' : Pos} {hds : List ExceptHandler} {l : List (Nat × Option Nat × FXS)} (hg : Gl X x) (hdb : (x == ("__debug__" : Str)) = false) (C : ExN X.K X.mg B.cl x k) (hi : X.N[i]? = some n) (hln : X.env.kindOf n = some .local)
      (hsu : ∀ (a : Addr) (oe : Obj) (cls : Value) (d : Option Addr) (pn : List (Addr × Obj)), Zc cls d oe → (∃ vs, oe.data = .fields vs) → SXs (X.suite a ((a, oe) :: pn)) B ⟨a, cls, d, i, k⟩ (b₀ :: suite) f) (r : HM X B hds l) :
      HM X B (.ExceptHandler (some (.Name x np)) (some n) (b₀ :: suite) pos' :: hds) ((k, some i, f) :: l)
section
variable {X : Cx} {B : Bx} {fb : FS} {pos : Pos}
theorem HM.ok {hds : List ExceptHandler} {l : List (Nat × Option Nat × FXS)} (hh : HM X B hds l) : ∃ ls, HdsM X hds ls ∧ ∀ (D : Ends) (x : EV.Exc) (m : Nat → Addr) (h : Hpe) (ρ : Rho) (σ : L2.St) (H : Hp) (c : Value) (d : Option Addr), SS B.G B.cf m h ρ σ H → ExR B.G B.cl m h.nx H x c d → OutS B m h H D (hdlM l x ρ h) → wMix X.K B.W D ls c d σ H := by
  induction hh with
  | nil => exact ⟨[], .nil, fun D x m h ρ σ H c d s r o => o m H σ c d s Mv.refl r⟩
  | @cons x k f b₀ suite np pos' hds l hg hdb C hsu r ih =>
    obtain ⟨ls, h1, h2⟩ := ih
    obtain ⟨cv, hm, hk⟩ := C.ex
    refine ⟨(cv, none, fun _ _ _ => tS B.nox f) :: ls, .cons ⟨hg, hdb, .inl hm⟩ (.inl ⟨rfl, rfl⟩) (fun a oe cls d pn _ _ => hsu a oe pn) h1, fun D x m h ρ σ H c d s rx o => ?_⟩
    refine ⟨_, C.mt x.cls c cv rx.1 hk, fun hb a _ => ⟨m, h, ρ, s, ?_⟩, fun hb => h2 D x m h ρ σ H c d s rx ?_⟩
    · simp only [hdlM, hb, cond_true] at o; exact o.noX
    · simp only [hdlM, hb, cond_false] at o; exact o
  | @consAs x n k i f b₀ suite np pos' hds l hg hdb C hi hln hsu r ih =>
    obtain ⟨ls, h1, h2⟩ := ih
    obtain ⟨cv, hm, hk⟩ := C.ex
    refine ⟨(cv, some i, fun a cls d => tXS B ⟨a, cls, d, i, k⟩ f) :: ls, .cons ⟨hg, hdb, .inl hm⟩ (.inr ⟨n, i, rfl, rfl, hi, hln⟩) (fun a oe cls d pn hz hf => hsu a oe cls d pn hz hf) h1, fun D x m h ρ σ H c d s rx o => ?_⟩
    refine ⟨_, C.mt x.cls c cv rx.1 hk, fun hb a _ => ?_, fun hb => h2 D x m h ρ σ H c d s rx ?_⟩
    · simp only [hdlM, hb, cond_true] at o
      cases ci : Nat.blt i ρ.length with
      | false => rw [ci] at o; exact o.elim
      | true =>
        rw [ci] at o
        have hil : i < σ.length := by rw [← s.len]; exact Nat.le_of_ble_eq_true ci
        exact ⟨m, h, ρ.set i none, x, s.unset i _, ⟨by rw [List.getElem?_set_self hil], beq_eq hb, rx⟩, o.unset⟩
    · simp only [hdlM, hb, cond_false] at o; exact o
end
end EV
set_option maxHeartbeats 2000000
namespace EV
open PySem PySem.Spec PyProof.Rows L2
theorem room65 {k : Nat} {A : Around} (r : Room k A) : A.units + 65 < cLine := by have := r.un; omega
section
variable {X : Cx}
end
section
variable {X : Cx} {B : Bx} {a b c e : Expr} {fa fb f : FE} {fs : FA} {pos p : Pos} {x : Str}
def bMM2 (g : Int → Int → Int) : List W → Hpe → Res W
  | [.int i, .int j], h => .ok (.int (g i j)) h
  | _, _ => .no
theorem cs_mm2 {G : GC} {g : Int → Int → Int} : ClS G (fun xs H Q => ∃ i j, xs = [V.int i, V.int j] ∧ Q (V.int (g i j)) H) (bMM2 g) := by
  intro cl Wx m h H ws vs Q rh r o
  match ws, r, o with
  | [.int i, .int j], r, o =>
    obtain ⟨v, u, rfl, a1, a2⟩ := rws_two r
    obtain rfl := rw_int a1
    obtain rfl := rw_int a2
    exact ⟨i, j, rfl, o m H _ rh Mv.refl (.int _)⟩
section
variable (hK : X.K = B.G.K) (ha : SA X B [e] fs) (h3 : starEach [e] X.env = (false, eval e X.env) :: starEach [] X.env) (h4 : (backTo pos (starEach [] X.env)).any (·.1) = false)
include hK ha h3 h4
end
theorem se_min2 {a b : Expr} (hc : X.calm = true) (hm : X.mg "min" = none) (hg : Gl X "min") (ha : SA X B [a, b] fs) (h3 : starEach [a, b] X.env = (false, eval a X.env) :: starEach [b] X.env) (h4 : (backTo pos (starEach [b] X.env)).any (·.1) = false) :
    SE X B (.Call (.Name "min" p) [a, b] [] pos) (eBl (bMM2 fun i j => if j < i then j else i) fs) := se_bl' (call_min2 hc) cs_mm2 hg hm (by decide +kernel) ha (by decide) (by decide) h3 h4
end
end EV
set_option maxHeartbeats 4000000
namespace EV
open PySem PySem.Spec PyProof.Rows L2
theorem mapO_nk {G : GC} {m : Nat → Addr} {n : Nat} {H : Hp} {f : W → Option NestedKey} (hf : ∀ w v k, RW G m n H w v → f w = some k → Nk G.K H k v) : ∀ {ws : List W} {vs : List V} {ks : List NestedKey}, RWs G m n H ws vs → mapO f ws = some ks →
    ks.length = vs.length ∧ ∀ (j : Nat) (k : NestedKey) (x : V), ks[j]? = some k → vs[j]? = some x → Nk G.K H k x
  | _, _, _, .nil, e => by cases e; exact ⟨rfl, fun j k x h => by simp at h⟩
  | w :: ws, v :: vs, ks, .cons a b, e => by
    simp only [mapO] at e
    split at e
    · cases e
    · rename_i y ey
      split at e
      · cases e
      · rename_i ys eys
        cases e
        obtain ⟨h1, h2⟩ := mapO_nk hf b eys
        refine ⟨by simp [h1], fun j k x hk hx => ?_⟩
        cases j with
        | zero => simp at hk hx; subst hk hx; exact hf w v y a ey
        | succ j => exact h2 j k x (by simpa using hk) (by simpa using hx)
theorem nkW_ok {G : GC} {m : Nat → Addr} {n : Nat} {H : Hp} : ∀ (f : Nat) (w : W) (v : V) (k : NestedKey), RW G m n H w v → nkW f w = some k → Nk G.K H k v
  | 0, _, _, _, _, e => by cases e
  | f + 1, w, v, k, r, e => by
    cases w with
    | non => cases e; obtain rfl := rw_non r; exact .non
    | bl b => cases e; obtain rfl := asB_ok r; exact .bl b
    | int i => cases e; obtain rfl := rw_int r; exact .int i
    | str x => cases e; obtain rfl := rw_str r; exact .str x
    | ref _ => cases e
    | df _ => cases e
    | clo _ _ => cases e
    | tup ws =>
      simp only [nkW] at e
      split at e
      · cases e
      · rename_i ks q
        cases e
        obtain ⟨a, xs, rfl, s, rs⟩ := rw_tup r
        obtain ⟨h1, h2⟩ := mapO_nk (fun w v k => nkW_ok f w v k) rs q
        exact .tup s h1 h2
def keyT (w : W) : Option NestedKey := match w with
  | .tup _ => match nkW 9 w with
    | some k => bif Nat.ble k.depth 8 then some k else none
    | none => none
  | _ => none
theorem keyT_ok {G : GC} {m : Nat → Addr} {n : Nat} {H : Hp} {w : W} {v : V} {k : NestedKey} (r : RW G m n H w v) (e : keyT w = some k) : nkW 9 w = some k ∧ k.depth ≤ 8 ∧ Nk G.K H k v ∧ ∃ b, v = .ref b := by
  unfold keyT at e
  split at e
  · rename_i ws
    split at e
    · rename_i k' e'
      cases c : Nat.ble k'.depth 8 with
      | false => rw [c] at e; cases e
      | true =>
        rw [c] at e; cases e
        obtain ⟨a, xs, rfl, _, _⟩ := rw_tup r
        exact ⟨e', Nat.le_of_ble_eq_true c, nkW_ok 9 _ _ _ r e', a, rfl⟩
    · cases e
  · cases e
def atW (kvs : List (W × W)) (k : NestedKey) : Option W := match kvs with
  | [] => none
  | p :: r => bif decide (nkW 9 p.1 = some k) then some p.2 else atW r k
def setW (k : NestedKey) (w : W) : List (W × W) → List (W × W)
  | [] => []
  | p :: r => (bif decide (nkW 9 p.1 = some k) then (p.1, w) else p) :: setW k w r
def putW (kvs : List (W × W)) (key : W) (k : NestedKey) (w : W) : List (W × W) := match atW kvs k with
  | some _ => setW k w kvs
  | none => kvs ++ [(key, w)]
section
variable {G : GC} {m : Nat → Addr} {n : Nat} {H : Hp}
def DnR (G : GC) (m : Nat → Addr) (n : Nat) (H : Hp) (kvs : List (W × W)) (xs : Dn) : Prop :=
  kvs.map (fun p => nkW 9 p.1) = xs.map (fun x => some x.1) ∧ (∀ x ∈ xs, x.1.depth ≤ 8) ∧ RWs G m n H (kvs.map (·.1)) (xs.map fun x => V.ref x.2.1) ∧ RWs G m n H (kvs.map (·.2)) (xs.map (·.2.2))
theorem DnR.key {kvs : List (W × W)} {xs : Dn} (r : DnR G m n H kvs xs) : ∀ x ∈ xs, Nk G.K H x.1 (.ref x.2.1) ∧ x.1.depth ≤ 8 := by
  induction kvs generalizing xs with
  | nil => obtain ⟨h1, _⟩ := r; cases xs with
    | nil => intro x hx; cases hx
    | cons _ _ => simp at h1
  | cons p kvs ih =>
    obtain ⟨h1, h2, h3, h4⟩ := r
    cases xs with
    | nil => intro x hx; cases hx
    | cons y xs =>
      simp only [List.map_cons, List.cons.injEq] at h1 h3 h4
      cases h3 with
      | cons a3 b3 => cases h4 with
        | cons a4 b4 =>
          intro x hx
          rcases List.mem_cons.mp hx with rfl | hx
          · exact ⟨nkW_ok 9 _ _ _ a3 h1.1, h2 _ (List.mem_cons_self ..)⟩
          · exact ih ⟨h1.2, fun z hz => h2 z (List.mem_cons_of_mem _ hz), b3, b4⟩ x hx
theorem DnR.at {kvs : List (W × W)} {xs : Dn} (r : DnR G m n H kvs xs) (k : NestedKey) : (atW kvs k = none ∧ atV xs k = none) ∨ ∃ w p, atW kvs k = some w ∧ atV xs k = some p ∧ RW G m n H w p.2 := by
  induction kvs generalizing xs with
  | nil => obtain ⟨h1, _⟩ := r; cases xs with
    | nil => exact .inl ⟨rfl, rfl⟩
    | cons _ _ => simp at h1
  | cons p kvs ih =>
    obtain ⟨h1, h2, h3, h4⟩ := r
    cases xs with
    | nil => simp at h1
    | cons y xs =>
      simp only [List.map_cons, List.cons.injEq] at h1 h3 h4
      cases h3 with
      | cons a3 b3 => cases h4 with
        | cons a4 b4 =>
          have ih' := ih ⟨h1.2, fun z hz => h2 z (List.mem_cons_of_mem _ hz), b3, b4⟩
          unfold atW
          unfold atV at ih' ⊢
          rw [List.find?_cons, h1.1]
          by_cases c : y.1 = k
          · rw [decide_eq_true (show some y.1 = some k by rw [c]), decide_eq_true c]
            exact .inr ⟨p.2, y.2, rfl, rfl, a4⟩
          · rw [decide_eq_false (show ¬ some y.1 = some k by simpa using c), decide_eq_false c]
            exact ih'
theorem DnR.sets {kvs : List (W × W)} {xs : Dn} {k : NestedKey} {w : W} {v : V} (rv : RW G m n H w v) (r : DnR G m n H kvs xs) : DnR G m n H (setW k w kvs) (xs.map fun x => if x.1 = k then (x.1, x.2.1, v) else x) := by
  induction kvs generalizing xs with
  | nil => obtain ⟨h1, _⟩ := r; cases xs with
    | nil => exact ⟨rfl, fun _ z => (nomatch z), .nil, .nil⟩
    | cons _ _ => simp at h1
  | cons p kvs ih =>
    obtain ⟨h1, h2, h3, h4⟩ := r
    cases xs with
    | nil => simp at h1
    | cons y xs =>
      simp only [List.map_cons, List.cons.injEq] at h1 h3 h4
      cases h3 with
      | cons a3 b3 => cases h4 with
        | cons a4 b4 =>
          obtain ⟨i1, i2, i3, i4⟩ := ih ⟨h1.2, fun z hz => h2 z (List.mem_cons_of_mem _ hz), b3, b4⟩
          unfold setW
          by_cases c : y.1 = k
          · rw [h1.1, decide_eq_true (show some y.1 = some k by rw [c]), cond_true, List.map_cons, if_pos c]
            refine ⟨by simp only [List.map_cons]; rw [h1.1, i1], fun z hz => ?_, .cons a3 i3, .cons rv i4⟩
            rcases List.mem_cons.mp hz with rfl | hz
            · exact h2 y (List.mem_cons_self ..)
            · exact i2 z hz
          · rw [h1.1, decide_eq_false (show ¬ some y.1 = some k by simpa using c), cond_false, List.map_cons, if_neg c]
            refine ⟨by simp only [List.map_cons]; rw [h1.1, i1], fun z hz => ?_, .cons a3 i3, .cons a4 i4⟩
            rcases List.mem_cons.mp hz with rfl | hz
            · exact h2 _ (List.mem_cons_self ..)
            · exact i2 z hz
theorem DnR.put {kvs : List (W × W)} {xs : Dn} {key w : W} {b : Addr} {k : NestedKey} {v : V} (r : DnR G m n H kvs xs) (rk : RW G m n H key (.ref b)) (ek : nkW 9 key = some k) (hd : k.depth ≤ 8) (rv : RW G m n H w v) : DnR G m n H (putW kvs key k w) (putV xs k b v) := by
  unfold putW putV
  rcases r.at k with ⟨e1, e2⟩ | ⟨w', p, e1, e2, _⟩
  · rw [e1, e2]
    obtain ⟨h1, h2, h3, h4⟩ := r
    show DnR G m n H (kvs ++ [(key, w)]) (xs ++ [(k, b, v)])
    refine ⟨by simp [h1, ek], fun x hx => ?_, by simpa using h3.app (.cons rk .nil), by simpa using h4.app (.cons rv .nil)⟩
    rcases List.mem_append.mp hx with hx | hx
    · exact h2 x hx
    · rw [List.mem_singleton.mp hx]; exact hd
  · rw [e1, e2]; exact r.sets rv
end
theorem dn_nofrz {P : Program} {w : World} {K : PySem.W.Frag} {H : Hp} {a : Addr} {xs : Dn} (D : DnAt P w K H a xs) (ob : Obj) (u : HO) : H a ≠ some (.frz ob u) := fun z => by
  rcases D.obj with e | ⟨_, e⟩
  · rw [z] at e
    exact absurd (show HO.frz _ _ = HO.ext _ from Option.some.inj e) (fun q => by cases q)
  · rw [z] at e; cases e
def rdN (h : Hpe) (n : Nat) : Option (List (W × W)) := match h.get n with
  | some (.dn kvs) => some kvs
  | some (.dk []) => some []
  | _ => none
theorem RH.dn {G : GC} {m : Nat → Addr} {h : Hpe} {H : Hp} (r : RH G m h H) {i : Nat} {kvs : List (W × W)} (hi : i < h.nx) (e : rdN h i = some kvs) : ∃ xs, DnR G m h.nx H kvs xs ∧ DnAt G.prog G.wo G.K H (m i) xs := by
  obtain ⟨o, ho, q1, q2, q3⟩ := r.obj i hi
  unfold rdN at e
  rw [q1] at e
  cases q3 with
  | lst _ => cases e
  | fz _ => cases e
  | @dk kvs' kus a b =>
    cases kvs' with
    | nil =>
      cases e
      cases kus with
      | nil => exact ⟨[], ⟨rfl, fun _ z => (nomatch z), .nil, .nil⟩, .inr ⟨rfl, q2⟩, fun _ z => (nomatch z)⟩
      | cons _ _ => simp at a
    | cons _ _ => cases e
  | @dn _ xs a b c d =>
    cases e
    have R : DnR G m h.nx H kvs xs := ⟨a, b, c, d⟩
    exact ⟨xs, R, .inl q2, R.key⟩
  | st _ _ _ => cases e
  | si _ => cases e
  | ob _ _ _ => cases e
  | fd _ _ => cases e
  | fn _ _ _ _ => cases e
  | pt _ _ => cases e
  | er0 _ => cases e
  | er1 _ _ => cases e
  | xo => cases e
def keyK : W → Option Key
  | .int i => some (.inl i)
  | .str x => some (.inr x)
  | _ => none
theorem keyK_ok {G : GC} {m : Nat → Addr} {n : Nat} {H : Hp} {w : W} {v : V} {k : Key} (r : RW G m n H w v) (e : keyK w = some k) : v = kV k := by
  cases w <;> try (cases e; done)
  · cases e; obtain rfl := rw_int r; rfl
  · cases e; obtain rfl := rw_str r; rfl
def atK (kvs : List (Key × W)) (k : Key) : Option W := match kvs with
  | [] => none
  | p :: r => bif decide (p.1 = k) then some p.2 else atK r k
theorem atK_rel {G : GC} {m : Nat → Addr} {n : Nat} {H : Hp} : ∀ {kvs : List (Key × W)} {kus : List (Key × V)}, kvs.map (·.1) = kus.map (·.1) → RWs G m n H (kvs.map (·.2)) (kus.map (·.2)) → ∀ k, (atK kvs k = none ∧ valV kus k = none) ∨ ∃ w v, atK kvs k = some w ∧ valV kus k = some v ∧ RW G m n H w v
  | [], [], _, _, k => .inl ⟨rfl, rfl⟩
  | [], _ :: _, h, _, _ => by simp at h
  | _ :: _, [], h, _, _ => by simp at h
  | p :: kvs, q :: kus, h1, h2, k => by
    simp only [List.map_cons, List.cons.injEq] at h1
    simp only [List.map_cons] at h2
    cases h2 with
    | cons a b =>
      have ih := atK_rel h1.2 b k
      unfold atK
      unfold valV at ih ⊢
      rw [List.find?_cons, h1.1]
      by_cases c : q.1 = k
      · rw [decide_eq_true c]; exact .inr ⟨p.2, q.2, rfl, rfl, a⟩
      · rw [decide_eq_false c]; exact ih
end EV
namespace EV
open PySem PySem.Spec PyProof.Rows L2
structure Hm (X : Cx) (G : GC) : Prop where
  p : X.prog = G.prog
  w : X.w = G.wo
section
variable {X : Cx} {G : GC}
def rdK (h : Hpe) (n : Nat) : Option (List (Key × W)) := match h.get n with
  | some (.dk kvs) => some kvs
  | _ => none
theorem RH.dk {m : Nat → Addr} {h : Hpe} {H : Hp} (r : RH G m h H) {i : Nat} {kvs : List (Key × W)} (hi : i < h.nx) (e : rdK h i = some kvs) : ∃ kus, H (m i) = some (.dK kus) ∧ kvs.map (·.1) = kus.map (·.1) ∧ RWs G m h.nx H (kvs.map (·.2)) (kus.map (·.2)) := by
  obtain ⟨o, ho, q1, q2, q3⟩ := r.obj i hi
  unfold rdK at e
  rw [q1] at e
  cases q3 with
  | lst _ => cases e
  | fz _ => cases e
  | dk a b => cases e; exact ⟨_, q2, a, b⟩
  | dn _ _ _ _ => cases e
  | st _ _ _ => cases e
  | si _ => cases e
  | ob _ _ _ => cases e
  | fd _ _ => cases e
  | fn _ _ _ _ => cases e
  | pt _ _ => cases e
  | er0 _ => cases e
  | er1 _ _ => cases e
  | xo => cases e
def rdQ (h : Hpe) (n : Nat) : Option (List (Key × W)) := match h.get n with
  | some (.dk kvs) => some kvs
  | some (.fd kvs) => some kvs
  | _ => none
theorem RH.dq {m : Nat → Addr} {h : Hpe} {H : Hp} (r : RH G m h H) {i : Nat} {kvs : List (Key × W)} (hi : i < h.nx) (e : rdQ h i = some kvs) : ∃ kus, Rd H (m i) (.dK kus) ∧ kvs.map (·.1) = kus.map (·.1) ∧ RWs G m h.nx H (kvs.map (·.2)) (kus.map (·.2)) := by
  obtain ⟨o, ho, q1, q2, q3⟩ := r.obj i hi
  unfold rdQ at e
  rw [q1] at e
  cases q3 with
  | dk a b => cases e; exact ⟨_, .inl q2, a, b⟩
  | fd a b => cases e; exact ⟨_, .inr ⟨_, q2⟩, a, b⟩
  | _ => cases e
theorem dget_rd {H : Hp} {a : Addr} {kvs : List (Key × V)} {k : Key} (h : Rd H a (.dK kvs)) : DGet H a (kV k) (valV kvs k) := .inl ⟨kvs, k, h, rfl, rfl⟩
theorem tail_any {prog : Program} {w : World} {A : Around} {E : Value → Shared → Prop} {s : Shared} {value slice : Expr} {T id : String} {o i : Value} {Q : Value → Shared → Prop} (hT : s.TypeIs o T)
    (hl : typeLookup (.type T) "__getitem__" = pure (some (.builtin id))) (hs : subscripted slice false o i = operate [o, i] (getItem o i)) (h : wpAny (model prog w) A (getItem o i) Q E s) : wpAny (model prog w) A (subscriptTail value slice o i) Q E s := by
  unfold subscriptTail
  refine wpAny_bind ?_
  rw [getitemInPython_of_ne hT.not_modules]
  refine wpAny_bind (wpAny_specialOf hT hl ?_)
  have fin : wpAny (model prog w) A (subscripted slice false o i) (fun r s₃ => wpAny (model prog w) A (letTemporaryGo value o r >>= fun _ => pure r) Q E s₃) E s := by
    rw [hs]
    exact wpAny_operating (wpAny_mono h (fun r s₃ h₃ => wpAny_bind (wpAny_letTemporaryGo (wpAny_pure h₃))) fun _ _ x => x)
  first
    | exact wpAny_pure (wpAny_bind fin)
    | exact wpAny_bind (wpAny_pure (wpAny_bind fin))
    | exact wpAny_bind fin
theorem dn_ty {X : Cx} {pins : List (Addr × Obj)} {σ : L2.St} {H : Hp} {s : Shared} {a : Addr} {xs : Dn} (I : Inv X pins σ H s) (D : DnAt X.prog X.w X.K H a xs) : s.TypeIs (.ref a) "dict" := by
  obtain ⟨_, _, ys, _, dd⟩ := dn_of I D
  exact dd.typeIs
def rIx2 (G : GC) : R2 := fun x y H Q => rIx G.K x y H Q ∨ (∃ a b xs k p, x = .ref a ∧ y = .ref b ∧ DnAt G.prog G.wo G.K H a xs ∧ Nk G.K H k y ∧ k.depth ≤ 8 ∧ atV xs k = some p ∧ Q p.2 H) ∨ ∃ a v, x = .ref a ∧ DGet H a y (some v) ∧ Q v H
theorem ix_2 (hK : X.K = G.K) (hm : Hm X G) (hu : X.A.units + 65 < cLine) : IxR X (rIx2 G) := by
  intro value slice pins s σ H x y v u Q I rx ry h hs
  rcases h with h | ⟨a, b, xs, k, p, rfl, rfl, D, n, hd, hp, q⟩ | ⟨a, z, rfl, g, q⟩
  · rw [← hK] at h; exact ix_seq value slice pins s σ H x y v u Q I rx ry h hs
  · obtain rfl : v = Value.ref a := rx
    obtain rfl : u = Value.ref b := ry
    rw [← hm.p, ← hm.w, ← hK] at D
    rw [← hK] at n
    exact tail_any (dn_ty I D) slot_dict_getitem.lookup hs (dn_get (by omega) I D n hd hp fun w s' J rw => ⟨_, H, J, rw, q⟩)
  · obtain rfl : v = Value.ref a := rx
    exact tail_any (dict_typeIs I g) slot_dict_getitem.lookup hs (d_getItem (by omega) I g ry fun w s' J rw => ⟨_, H, J, rw, q⟩)
end
end EV
namespace EV
open PySem PySem.Spec PyProof.Rows L2
def gIx2 : W → W → Hpe → Res W := fun a b h => match a with
  | .ref n => match rdN h n, keyT b with
    | some kvs, some k => match atW kvs k with
      | some w => .ok w h
      | none => .no
    | _, _ => match rdQ h n, keyK b with
      | some kvs, some k => match atK kvs k with
        | some w => .ok w h
        | none => .no
      | _, _ => gIx (.ref n) b h
  | _ => gIx a b h
theorem os_ix2 {G : GC} : OpS G (rIx2 G) gIx2 := by
  intro cl Wx m h H a b x y Q rh ra rb o
  unfold gIx2 at o
  split at o
  · rename_i n
    obtain ⟨rfl, hn⟩ := rw_ref ra
    split at o
    · rename_i kvs k e1 e2
      obtain ⟨xs, R, D⟩ := rh.dn hn e1
      obtain ⟨k1, k2, k3, c, rfl⟩ := keyT_ok rb e2
      split at o
      · rename_i w ew
        rcases R.at k with ⟨z1, z2⟩ | ⟨w', p, z1, z2, rv⟩
        · rw [z1] at ew; cases ew
        · rw [z1] at ew; cases ew
          exact .inr (.inl ⟨_, c, xs, k, p, rfl, rfl, D, k3, k2, z2, o m H _ rh Mv.refl rv⟩)
      · exact o.elim
    · split at o
      · rename_i kvs k e1 e2
        obtain ⟨kus, eH, h1, h2⟩ := rh.dq hn e1
        obtain rfl := keyK_ok rb e2
        split at o
        · rename_i w ew
          rcases atK_rel h1 h2 k with ⟨z1, z2⟩ | ⟨w', v, z1, z2, rv⟩
          · rw [z1] at ew; cases ew
          · rw [z1] at ew; cases ew
            refine .inr (.inr ⟨_, v, rfl, ?_, o m H _ rh Mv.refl rv⟩)
            rw [← z2]
            exact dget_rd eH
        · exact o.elim
      · exact .inl (os_ix cl Wx m h H (.ref n) b _ y Q rh (.ref n hn) rb o)
  · exact .inl (os_ix cl Wx m h H a b x y Q rh ra rb o)
def setKW (k : Key) (w : W) : List (Key × W) → List (Key × W)
  | [] => []
  | p :: r => (bif decide (p.1 = k) then (p.1, w) else p) :: setKW k w r
def putKW (kvs : List (Key × W)) (k : Key) (w : W) : List (Key × W) := match atK kvs k with
  | some _ => setKW k w kvs
  | none => kvs ++ [(k, w)]
section
variable {G : GC} {m : Nat → Addr} {n : Nat} {H : Hp}
theorem any_at : ∀ (kus : List (Key × V)) (k : Key), (kus.any fun kv => decide (kv.1 = k)) = (valV kus k).isSome
  | [], _ => rfl
  | p :: r, k => by
    by_cases c : p.1 = k
    · rw [valV_pos c, List.any_cons, decide_eq_true c]; rfl
    · rw [valV_neg c, List.any_cons, decide_eq_false c, Bool.false_or]; exact any_at r k
theorem setKW_rel {w : W} {v : V} {k : Key} (rv : RW G m n H w v) : ∀ {kvs : List (Key × W)} {kus : List (Key × V)}, kvs.map (·.1) = kus.map (·.1) → RWs G m n H (kvs.map (·.2)) (kus.map (·.2)) →
    (setKW k w kvs).map (·.1) = (kus.map fun kv => if kv.1 = k then (kv.1, v) else kv).map (·.1) ∧ RWs G m n H ((setKW k w kvs).map (·.2)) ((kus.map fun kv => if kv.1 = k then (kv.1, v) else kv).map (·.2))
  | [], [], _, _ => ⟨rfl, .nil⟩
  | [], _ :: _, h, _ => by simp at h
  | _ :: _, [], h, _ => by simp at h
  | p :: kvs, q :: kus, h1, h2 => by
    simp only [List.map_cons, List.cons.injEq] at h1
    simp only [List.map_cons] at h2
    cases h2 with
    | cons a b =>
      obtain ⟨i1, i2⟩ := setKW_rel rv h1.2 b
      by_cases c : q.1 = k
      · simp only [setKW, List.map_cons, h1.1, decide_eq_true c, cond_true, if_pos c]
        exact ⟨by rw [i1], .cons rv i2⟩
      · simp only [setKW, List.map_cons, h1.1, decide_eq_false c, cond_false, if_neg c]
        exact ⟨by rw [i1], .cons a i2⟩
theorem putKW_rel {w : W} {v : V} {k : Key} (rv : RW G m n H w v) {kvs : List (Key × W)} {kus : List (Key × V)} (h1 : kvs.map (·.1) = kus.map (·.1)) (h2 : RWs G m n H (kvs.map (·.2)) (kus.map (·.2))) :
    (putKW kvs k w).map (·.1) = (putK kus k v).map (·.1) ∧ RWs G m n H ((putKW kvs k w).map (·.2)) ((putK kus k v).map (·.2)) := by
  unfold putKW putK
  rw [any_at]
  rcases atK_rel h1 h2 k with ⟨z1, z2⟩ | ⟨w', v', z1, z2, _⟩
  · rw [z1, z2]
    rw [if_neg (by decide)]
    exact ⟨by simp [h1], by simpa using h2.app (.cons rv .nil)⟩
  · rw [z1, z2]
    rw [if_pos (show (some v').isSome = true from rfl)]
    exact setKW_rel rv h1 h2
end
def rSet2 (G : GC) : TSet := fun o i v H Q => rSetL o i v H Q ∨ (∃ a b xs k, o = .ref a ∧ i = .ref b ∧ DnAt G.prog G.wo G.K H a xs ∧ Nk G.K H k i ∧ k.depth ≤ 8 ∧ xs.length < sizeLine ∧ Q (upd H a (dnO G.prog G.wo a (putV xs k b v)))) ∨ ∃ a H', o = .ref a ∧ DPut H a i v H' ∧ Q H'
theorem set_2 {X : Cx} {G : GC} (hK : X.K = G.K) (hm : Hm X G) (hu : X.A.units + 65 < cLine) : PSet X (rSet2 G) := by
  intro pins s σ H o i v ov iv u Q I ro ri rv h
  rcases h with h | ⟨a, b, xs, k, rfl, rfl, D, n, hd, hl, q⟩ | ⟨a, H', rfl, g, q⟩
  · exact set_list pins s σ H o i v ov iv u Q I ro ri rv h
  · obtain rfl : ov = Value.ref a := ro
    obtain rfl : iv = Value.ref b := ri
    rw [← hm.p, ← hm.w, ← hK] at D
    rw [← hm.p, ← hm.w] at q
    rw [← hK] at n
    exact dn_set (by omega) I D n hd hl rv fun s' J => ⟨_, J, q⟩
  · obtain rfl : ov = Value.ref a := ro
    exact d_setItem (by omega) I g ri rv fun s' J => ⟨_, J, q⟩
def putL (n : Nat) (i w : W) (h : Hpe) : Option Hpe := match i with
  | .int j => match h.get n with
    | some (.lst ws) => match ixN ws.length j with
      | some l => some (h.set n (.lst (ws.set l w)))
      | none => none
    | _ => none
  | _ => none
def putO (o i w : W) (h : Hpe) : Option Hpe := match o with
  | .ref n => match rdN h n, keyT i with
    | some kvs, some k => bif line kvs.length then some (h.set n (.dn (putW kvs i k w))) else none
    | _, _ => match rdK h n, keyK i with
      | some kvs, some k => bif line kvs.length then some (h.set n (.dk (putKW kvs k w))) else none
      | _, _ => putL n i w h
  | _ => none
theorem putL_ok {G : GC} {m : Nat → Addr} {h h' : Hpe} {H : Hp} {n : Nat} {i w : W} {iv v : V} {Q : Hp → Prop} (rh : RH G m h H) (hn : n < h.nx) (ri : RW G m h.nx H i iv) (rv : RW G m h.nx H w v) (e : putL n i w h = some h')
    (q : ∀ H', RH G m h' H' → Mv m h.nx H m h'.nx H' → Q H') : rSetL (.ref (m n)) iv v H Q := by
  unfold putL at e
  split at e
  · rename_i j
    obtain rfl := rw_int ri
    split at e
    · rename_i ws e3
      obtain ⟨xs, e4, qs⟩ := rh.lst hn e3
      split at e
      · rename_i l el
        cases e
        obtain ⟨r2, v2⟩ := rh.store hn (.lst (qs.set rv l))
        exact ⟨_, xs, j, l, rfl, rfl, e4, by rw [← qs.len]; exact el, q _ r2 v2⟩
      · cases e
    · cases e
  · cases e
theorem putO_ok {G : GC} {m : Nat → Addr} {h h' : Hpe} {H : Hp} {o i w : W} {ov iv v : V} {Q : Hp → Prop} (rh : RH G m h H) (ro : RW G m h.nx H o ov) (ri : RW G m h.nx H i iv) (rv : RW G m h.nx H w v) (e : putO o i w h = some h')
    (q : ∀ H', RH G m h' H' → Mv m h.nx H m h'.nx H' → Q H') : rSet2 G ov iv v H Q := by
  unfold putO at e
  split at e
  · rename_i n
    obtain ⟨rfl, hn⟩ := rw_ref ro
    split at e
    · rename_i kvs k e1 e2
      obtain ⟨xs, R, D⟩ := rh.dn hn e1
      obtain ⟨k1, k2, k3, c, rfl⟩ := keyT_ok ri e2
      cases cl : line kvs.length with
      | false => rw [cl] at e; cases e
      | true =>
        rw [cl] at e; cases e
        have hl : kvs.length = xs.length := by have := congrArg List.length R.1; simpa using this
        obtain ⟨p1, p2, p3, p4⟩ := R.put ri k1 k2 rv
        obtain ⟨r2, v2⟩ := rh.store hn (.dn p1 p2 p3 p4) (dn_nofrz D)
        exact .inr (.inl ⟨_, c, xs, k, rfl, rfl, D, k3, k2, by rw [← hl]; exact line_lt cl, q _ r2 v2⟩)
    · split at e
      · rename_i kvs k e1 e2
        obtain ⟨kus, eH, h1, h2⟩ := rh.dk hn e1
        obtain rfl := keyK_ok ri e2
        cases cl : line kvs.length with
        | false => rw [cl] at e; cases e
        | true =>
          rw [cl] at e; cases e
          have hl : kvs.length = kus.length := by have := congrArg List.length h1; simpa using this
          obtain ⟨p1, p2⟩ := putKW_rel (k := k) rv h1 h2
          obtain ⟨r2, v2⟩ := rh.store hn (.dk p1 p2)
          exact .inr (.inr ⟨_, _, rfl, DPut.k eH (by rw [← hl]; exact line_lt cl), q _ r2 v2⟩)
      · exact .inl (putL_ok rh hn ri rv e q)
  · cases e
section
variable {X : Cx} {B : Bx} {a b c e o i : Expr} {fa fb f fo fi : FE} {fs : FA} {pos p : Pos} {x : Str}
theorem se_ix2 (hK : X.K = B.G.K) (hm : Hm X B.G) (hu : X.A.units + 65 < cLine) (ha : SE X B a fa) (hb : SE X B b fb) (hp : PlainIx b) : SE X B (.Subscript a b pos) (e2 gIx2 fa fb) := pe_imp (pe_ix (r := rIx2 B.G) (ix_2 hK hm hu) ha hb hp) (op2 os_ix2)
def gSb2 (fo fi : FE) : FG := fun w ρ h => bindS (fo ρ h) ρ fun u h1 => bindS (fi ρ h1) ρ fun k h2 => match putO u k w h2 with
  | some h3 => .nx ρ h3
  | none => .no
theorem sg_sub2 (hK : X.K = B.G.K) (hm : Hm X B.G) (hu : X.A.units + 65 < cLine) (ho : SE X B o fo) (hi : SE X B i fi) (ha : ∀ v, assign (.Subscript o i pos) X.env v = (do
      let ov ← holding [v] (eval o X.env)
      let iv ← holding [v, ov] (eval i X.env)
      standAt pos
      holding [v, ov, iv] (setItem ov iv v)
      release [v, ov, iv] [])) : SG X B (.Subscript o i pos) (gSb2 fo fi) [] :=
  pg_imp (pg_sub ho hi (set_2 hK hm hu) ha) fun v σ H Q ⟨m, h, ρ, w, s, rv, o⟩ => ⟨m, h, ρ, s, (OutS.bind s o).mono fun u H1 ⟨u', m1, h1, r1, v1, q1, o1⟩ => ⟨m1, h1, ρ, s.mv r1 v1, (OutS.bind (s.mv r1 v1) o1).mono fun k H2 ⟨k', m2, h2, r2, v2, q2, o2⟩ => by
    have q1' := q1.mono v2.old v2.le (v2.tupk r1)
    have rv' := (rv.mono v1.old v1.le (v1.tupk s.rh)).mono v2.old v2.le (v2.tupk r1)
    split at o2
    · rename_i h3 e3
      exact putO_ok r2 q1' q2 rv' e3 fun H3 r3 v3 => o2 m2 H3 σ (((s.mv r1 v1).mv r2 v2).mv r3 v3) v3 .refl
    · exact o2.elim⟩⟩
end
end EV
namespace EV
open PySem PySem.Spec PyProof.Rows L2
structure Lcs (G : GC) (m1 : Nat → Addr) (n1 : Nat) (H1 : Hp) (D : Addr) (m : Nat → Addr) (h : Hpe) (acc : List W) (ys : List V) (H : Hp) : Prop where
  rh : RH G m h H
  mv : Mv m1 n1 H1 m h.nx H
  rw : RWs G m h.nx H acc.reverse ys
  at_ : H D = some (.lst ys)
  no : ∀ j, j < h.nx → m j ≠ D
section
variable {G : GC} {m1 m m' : Nat → Addr} {n1 : Nat} {H1 H H' : Hp} {D : Addr} {h h' : Hpe} {acc : List W} {ys : List V}
theorem Lcs.go (L : Lcs G m1 n1 H1 D m h acc ys H) (lt : ∀ i, i < n1 → H (m1 i) ≠ none) (r : RH G m' h' H') (v : Mv m h.nx H m' h'.nx H') : Lcs G m1 n1 H1 D m' h' acc ys H' :=
  ⟨r, L.mv.trans lt v, L.rw.mono v.old v.le (v.tupk L.rh), v.stay L.at_ L.no (fun _ z => by cases z), fun j hj z => by
    by_cases cj : j < h.nx
    · rw [v.old j cj] at z; exact L.no j cj z
    · have := v.new j (by omega) hj
      rw [z, L.at_] at this; cases this⟩
theorem Lcs.lt (L : Lcs G m1 n1 H1 D m h acc ys H) : ∀ i, i < n1 → H (m1 i) ≠ none := fun i hi => by
  rw [← L.mv.old i hi]; exact L.rh.ne_none (Nat.lt_of_lt_of_le hi L.mv.le)
theorem Lcs.add (L : Lcs G m1 n1 H1 D m h acc ys H) (hD : H1 D = none) {z : W} {u : V} (q : RW G m h.nx H z u) : Lcs G m1 n1 H1 D m h (z :: acc) (ys ++ [u]) (upd H D (.lst (ys ++ [u]))) := by
  have tk : TupK H (upd H D (.lst (ys ++ [u]))) := fun a xs q => by
    rcases q with q | ⟨ob, q⟩
    · exact .inl (by rw [upd_ne (fun z : a = D => by rw [z, L.at_] at q; cases q)]; exact q)
    · exact .inr ⟨ob, by rw [upd_ne (fun z : a = D => by rw [z, L.at_] at q; cases q)]; exact q⟩
  refine ⟨⟨L.rh.sz, L.rh.inj, fun j hj => ?_, fun P hP => ?_, fun P hP => ?_⟩, ⟨L.mv.le, L.mv.old, L.mv.new, fun b ob e hb => ?_, fun j hj ob u e => by rw [upd_ne (fun z => by rw [z, hD] at e; cases e)]; exact L.mv.kf j hj ob u e⟩, ?_, upd_same, L.no⟩
  · obtain ⟨o', ho', a1, a2, a3⟩ := L.rh.obj j hj
    exact ⟨o', ho', a1, by rw [upd_ne (L.no j hj)]; exact a2, a3.mono (fun _ _ => rfl) (Nat.le_refl _) tk⟩
  · obtain ⟨ps, a1, a2⟩ := L.rh.tab P hP
    exact ⟨ps, by rw [upd_ne (fun z : P = D => by rw [z, L.at_] at a1; cases a1)]; exact a1, a2⟩
  · exact (L.rh.ltab P hP).keep (fun ps e => by rw [upd_ne (fun z : P = D => by rw [z, L.at_] at e; cases e)]; exact e) fun b q e nb => ⟨by rw [upd_ne (fun z : b = D => by rw [z, L.at_] at e; unfold LamX.CodeO at e; cases e)]; exact e, nb⟩
  · have bD : b ≠ D := fun z => by rw [z, hD] at e; cases e
    rw [upd_ne bD]; exact L.mv.kp b ob e hb
  · rw [List.reverse_cons]
    exact (L.rw.mono (fun _ _ => rfl) (Nat.le_refl _) tk).app (.cons (q.mono (fun _ _ => rfl) (Nat.le_refl _) tk) .nil)
end
structure Wk (m : Nat → Addr) (n : Nat) (H : Hp) (m' : Nat → Addr) (n' : Nat) (H' : Hp) : Prop where
  old : ∀ i, i < n → m' i = m i
  le : n ≤ n'
  tk : TupK H H'
  kf : ∀ i, i < n → ∀ ob u, H (m i) = some (.frz ob u) → H' (m i) = some (.frz ob u)
theorem Wk.refl {m : Nat → Addr} {n : Nat} {H : Hp} : Wk m n H m n H := ⟨fun _ _ => rfl, Nat.le_refl _, .refl, fun _ _ _ _ e => e⟩
theorem Wk.go {m m1 m2 : Nat → Addr} {n n1 n2 : Nat} {H H1 H2 : Hp} (a : Wk m n H m1 n1 H1) (b : Wk m1 n1 H1 m2 n2 H2) : Wk m n H m2 n2 H2 :=
  ⟨fun i hi => (b.old i (Nat.lt_of_lt_of_le hi a.le)).trans (a.old i hi), Nat.le_trans a.le b.le, TupK.trans a.tk b.tk, fun i hi ob u e => by
    have z := b.kf i (Nat.lt_of_lt_of_le hi a.le) ob u (by rw [a.old i hi]; exact a.kf i hi ob u e)
    rwa [a.old i hi] at z⟩
section
variable {X : Cx} {B : Bx} {tg tg1 elt iter iter1 : Expr} {ifs ifs1 : List Expr} {fe : FE} {ft ft1 : FT} {fi fi1 : FI} {g g1 : FG} {us us1 vs vs1 : List Nat} {pos : Pos}
end
end EV
namespace EV
open PySem PySem.Spec PyProof.Rows L2
def byN {α : Type} (π : List Nat) (us ws : List α) : List α := us ++ π.filterMap (fun i => ws[i]?)
structure DfK (P : Program) (w : World) (K : PySem.W.Frag) (mg : Str → Option Value) (base : Heap) (G : GC) (cl : Cls) (x : Str) (ps : List Str) (n : Nat) (ks : List Str) (π : List Nat) (k : Nat) (g : List W → Hpe → Res W) : Prop where
  ex : ∃ f fd, FnOk P w K mg base (L2.CX P w) k f fd ps (spE G cl ps.length g) ∧ mg x = some (.ref f) ∧ PySem.W.keepIn K (.ref f) = true ∧ KBn K fd ps n ks (byN π) (byN π)
section
variable {X : Cx} {B : Bx} {e : Expr} {es : List Expr} {kws : List Keyword} {f : FE} {fs fk : FA} {p pos kpos : Pos} {x : Str} {nm : Option Str}
end
end EV
namespace EV
open PySem PySem.Spec PyProof.Rows L2
abbrev Prs := List (FE × FE)
section
variable {B : Bx}
end
section
variable {X : Cx} {B : Bx} {pos : Pos} {keys : List (Option Expr)} {values : List Expr} {ps : Prs}
end
end EV
namespace EV
open PySem PySem.Spec PyProof.Rows L2
section
variable {X : Cx} {B : Bx} {e : Expr} {es : List Expr} {kws : List Keyword} {fs fk : FA} {p pos : Pos} {x : Str}
end
end EV
namespace EV
open PySem PySem.Spec PyProof.Rows L2
section
variable {X : Cx} {B : Bx} {tg iter kx vx : Expr} {ifs : List Expr} {fi : FI} {g : FG} {ft : FT} {fk fv : FE} {us vs : List Nat} {pos : Pos}
end
end EV
namespace EV
open PySem PySem.Spec PyProof.Rows L2
section
variable {X : Cx} {B : Bx} {e o : Expr} {es : List Expr} {fo : FE} {fs : FA} {apos cpos : Pos}
end
end EV
namespace EV
open PySem PySem.Spec PyProof.Rows L2
section
variable {X : Cx} {B : Bx} {a b : Expr} {fa fb : FE} {pos : Pos}
end
end EV
namespace EV
open PySem PySem.Spec PyProof.Rows L2
end EV
namespace EV
open PySem PySem.Spec PyProof.Rows L2
section
variable {G : GC} {m : Nat → Addr} {n : Nat} {H : Hp} {h : Hpe}
def MemR (G : GC) (m : Nat → Addr) (n : Nat) (H : Hp) (ws : List W) (l : Mem) : Prop := ws.map (nkW 9) = l.map (fun x => some x.1) ∧ (∀ x ∈ l, x.1.depth ≤ 8) ∧ RWs G m n H ws (l.map fun x => V.ref x.2)
theorem MemR.key {ws : List W} {l : Mem} (r : MemR G m n H ws l) : MemK G.K H l := by
  induction l generalizing ws with
  | nil => intro p hp; cases hp
  | cons p l ih =>
    obtain ⟨h1, h2, h3⟩ := r
    cases ws with
    | nil => cases h3
    | cons w ws =>
      simp only [List.map_cons, List.cons.injEq] at h1 h3
      cases h3 with
      | cons a b =>
        intro q hq
        rcases List.mem_cons.mp hq with rfl | hq
        · exact ⟨nkW_ok 9 _ _ _ a h1.1, h2 _ (List.mem_cons_self ..)⟩
        · exact ih ⟨h1.2, fun x hx => h2 x (List.mem_cons_of_mem _ hx), b⟩ q hq
theorem MemR.len {ws : List W} {l : Mem} (r : MemR G m n H ws l) : ws.length = l.length := by simpa using congrArg List.length r.1
def hasT (k : NestedKey) : List W → Bool
  | [] => false
  | w :: ws => bif decide (nkW 9 w = some k) then true else hasT k ws
theorem hasT_ok (k : NestedKey) : ∀ {ws : List W} {l : Mem}, ws.map (nkW 9) = l.map (fun x => some x.1) → hasT k ws = decide (k ∈ l.map (·.1))
  | [], [], _ => rfl
  | [], _ :: _, e => by simp at e
  | _ :: _, [], e => by simp at e
  | w :: ws, p :: l, e => by
    simp only [List.map_cons, List.cons.injEq] at e
    unfold hasT
    rw [e.1, hasT_ok k e.2]
    by_cases c : p.1 = k
    · subst c
      simp
    · have c' : ¬ k = p.1 := fun z => c z.symm
      simp [c, c']
def putT (ws : List W) (y : W) (k : NestedKey) : List W := bif hasT k ws then ws else ws ++ [y]
theorem MemR.put {ws : List W} {l : Mem} (r : MemR G m n H ws l) {y : W} {k : NestedKey} {b : Addr} (ry : RW G m n H y (.ref b)) (e : nkW 9 y = some k) (d : k.depth ≤ 8) : MemR G m n H (putT ws y k) (putM l k b) := by
  unfold putT putM
  rw [hasT_ok k r.1]
  by_cases c : k ∈ l.map (·.1)
  · rw [decide_eq_true c, if_pos c]; exact r
  · rw [decide_eq_false c, if_neg c]
    obtain ⟨h1, h2, h3⟩ := r
    refine ⟨by simp [h1, e], fun x hx => ?_, by simpa using h3.app (.cons ry .nil)⟩
    rcases List.mem_append.mp hx with hx | hx
    · exact h2 x hx
    · rw [List.mem_singleton.mp hx]; exact d
theorem RH.st (r : RH G m h H) {i : Nat} {ws : List W} (hi : i < h.nx) (e : h.get i = some (.st ws)) : ∃ l, MemR G m h.nx H ws l ∧ H (m i) = some (snO G.wo (m i) l) := by
  obtain ⟨o, ho, q1, q2, q3⟩ := r.obj i hi
  rw [e] at q1; cases q1
  cases q3 with
  | st a b c => exact ⟨_, ⟨a, b, c⟩, q2⟩
theorem RH.si (r : RH G m h H) {i : Nat} {is : List Int} (hi : i < h.nx) (e : h.get i = some (.si is)) : is.Nodup ∧ H (m i) = some (SetO G.wo (m i) (fun k => is.contains k) is.length) := by
  obtain ⟨o, ho, q1, q2, q3⟩ := r.obj i hi
  rw [e] at q1; cases q1
  cases q3 with
  | si a => exact ⟨a, q2⟩
end
section
variable {X : Cx} {o e : Expr} {es : List Expr} {to : TE} {t : TA} {apos cpos : Pos}
end
section
variable {X : Cx} {B : Bx} {a b c e o : Expr} {es : List Expr} {fa fb f fo : FE} {fs : FA} {pos p apos cpos : Pos} {x : Str}
end
end EV
namespace EV
open PySem PySem.Spec PyProof.Rows L2
section
variable {G : GC} {m : Nat → Addr} {n : Nat} {H : Hp} {h : Hpe}
inductive PrD (G : GC) (m : Nat → Addr) (n : Nat) (H : Hp) : List (W × PyData) → List (V × PyData) → Prop
  | nil : PrD G m n H [] []
  | cons {w : W} {v : V} {d : PyData} {ps : List (W × PyData)} {bs : List (V × PyData)} : RW G m n H w v → PrD G m n H ps bs → PrD G m n H ((w, d) :: ps) ((v, d) :: bs)
theorem PrD.ins : ∀ {ps : List (W × PyData)} {bs : List (V × PyData)} {w : W} {v : V} {d : PyData}, RW G m n H w v → PrD G m n H ps bs → PrD G m n H (ins leD (w, d) ps) (ins leD (v, d) bs)
  | _, _, _, _, _, r, .nil => .cons r .nil
  | _, _, w, v, d, r, .cons (d := d') a b => by
    unfold EV.ins
    have e : ∀ {α β : Type} (x y : α) (x' y' : β), leD (x, d) (y, d') = leD (x', d) (y', d') := fun _ _ _ _ => rfl
    rw [e (β := V) w _ v _]
    cases leD (v, d) (_, d') with
    | true => exact .cons r (.cons a b)
    | false => exact .cons a (b.ins r)
theorem PrD.dat : ∀ {ps : List (W × PyData)} {bs : List (V × PyData)}, PrD G m n H ps bs → ps.map (·.2) = bs.map (·.2)
  | _, _, .nil => rfl
  | _, _, .cons a b => by rw [List.map_cons, List.map_cons, b.dat]
theorem PrD.chain : ∀ {ps : List (W × PyData)} {bs : List (V × PyData)}, PrD G m n H ps bs → chainL ltD ps = chainL ltD bs
  | _, _, .nil => rfl
  | _, _, .cons a .nil => rfl
  | _, _, .cons a (.cons b c) => by
    unfold chainL
    rw [(PrD.cons b c).chain]
    rfl
def bLen3 : List W → Hpe → Res W
  | [.str x], h => bif line x.length then .ok (.int x.length) h else .no
  | [.ref n], h => match h.get n with
    | some (.st ws) => .ok (.int ws.length) h
    | some (.si is) => .ok (.int is.length) h
    | some (.dk kvs) => .ok (.int kvs.length) h
    | some (.dn kvs) => .ok (.int kvs.length) h
    | _ => bLen [.ref n] h
  | ws, h => bLen ws h
def rLenS (w : World) : List V → Hp → VK → Prop := fun xs H Q => ∃ a, xs = [V.ref a] ∧ ((∃ l, H a = some (snO w a l) ∧ Q (.int l.length) H) ∨ ∃ S n, H a = some (SetO w a S n) ∧ Q (.int n) H)
theorem cr_lenS {X : Cx} : CallR X (.builtin "len") (rLenS X.w) := by
  intro pins s σ H xs us Q I r h
  obtain ⟨a, rfl, h⟩ := h
  rw [Vals.ref1 r]
  rcases h with ⟨l, ha, q⟩ | ⟨S, n, ha, q⟩
  · obtain ⟨l', es, ep, t, pm, R⟩ : SnP X.w a l s.heap := (I.hok a _ ha).1
    obtain ⟨o, eo, ex, ed⟩ := R.ob
    have few := R.few
    have sz := R.size
    refine call_len_set eo ex ed R.fits (by omega) ⟨.int l.length, H, I.tok _, ⟨_, by rw [sz, pm.length_eq]⟩, q⟩
  · obtain ⟨o, es, ep, t, eo, ex, ed, _, _, _, c, f, sz, _⟩ := setO_get I ha
    have c' : es.size < 4096 := c
    refine call_len_set eo ex ed f (by omega) ⟨.int n, H, I.tok _, ⟨_, by rw [sz]⟩, q⟩
def rLenN (G : GC) : List V → Hp → VK → Prop := fun xs H Q => ∃ a ys, xs = [V.ref a] ∧ DnAt G.prog G.wo G.K H a ys ∧ Q (.int ys.length) H
theorem cr_lenN {X : Cx} (hK : X.K = G.K) (hm : Hm X G) : CallR X (.builtin "len") (rLenN G) := by
  intro pins s σ H xs us Q I r h
  obtain ⟨a, ys, rfl, D, q⟩ := h
  rw [Vals.ref1 r]
  rw [← hm.p, ← hm.w, ← hK] at D
  obtain ⟨z, hd, zs, rel, dd⟩ := dn_of I D
  have hl : ys.length = zs.length := Paired.length rel
  refine call_len_dictH hd dd (by rw [← hl]; rw [sizeLine_eq] at z; omega) ?_
  rw [← hl]
  exact ⟨.int ((ys.length : Nat) : Int), H, I.tok _, ⟨_, rfl⟩, q⟩
def rLen3 (G : GC) : List V → Hp → VK → Prop := fun xs H Q => (∃ p ys, xs = [V.ref p] ∧ (SqL G.K H p ys ∨ SqT G.K H p ys) ∧ Q (V.int ↑ys.length) H) ∨ (∃ z, xs = [.str z] ∧ z.length ≤ sizeLine ∧ Q (.int z.length) H) ∨ rLenS G.wo xs H Q ∨ (∃ a kvs, xs = [V.ref a] ∧ H a = some (.dK kvs) ∧ Q (.int kvs.length) H) ∨ rLenN G xs H Q
theorem cs_len3 : ClS G (rLen3 G) bLen3 := by
  intro cl Wx m h H ws vs Q rh r o
  unfold bLen3 at o
  split at o
  · obtain ⟨v, rfl, rv⟩ := rws_one r
    obtain rfl := rw_str rv
    rename_i x
    cases c : line x.length with
    | false => rw [c] at o; exact o.elim
    | true => rw [c] at o; exact .inr (.inl ⟨x, rfl, line_le c, o m H _ rh Mv.refl (.int _)⟩)
  · rename_i n
    obtain ⟨v, rfl, rv⟩ := rws_one r
    obtain ⟨rfl, hn⟩ := rw_ref rv
    split at o
    · rename_i ws e
      obtain ⟨l, R, eH⟩ := rh.st hn e
      exact .inr (.inr (.inl ⟨_, rfl, .inl ⟨l, eH, o m H _ rh Mv.refl (by rw [R.len]; exact .int _)⟩⟩))
    · rename_i is e
      obtain ⟨_, eH⟩ := rh.si hn e
      exact .inr (.inr (.inl ⟨_, rfl, .inr ⟨_, _, eH, o m H _ rh Mv.refl (.int _)⟩⟩))
    · rename_i kvs e
      have e1 : rdK h n = some kvs := by unfold rdK; rw [e]
      obtain ⟨kus, eH, h1, h2⟩ := rh.dk hn e1
      have hl : kvs.length = kus.length := by simpa using congrArg List.length h1
      exact .inr (.inr (.inr (.inl ⟨_, kus, rfl, eH, o m H _ rh Mv.refl (by rw [hl]; exact .int _)⟩)))
    · rename_i kvs e
      have e1 : rdN h n = some kvs := by unfold rdN; rw [e]
      obtain ⟨xs, R, D⟩ := rh.dn hn e1
      have hl : kvs.length = xs.length := by simpa using congrArg List.length R.1
      exact .inr (.inr (.inr (.inr ⟨_, xs, rfl, D, o m H _ rh Mv.refl (by rw [hl]; exact .int _)⟩)))
    · exact .inl (cs_len cl Wx m h H _ _ Q rh (.cons (.ref n hn) .nil) o)
  · exact .inl (cs_len cl Wx m h H _ _ Q rh r o)
def kW : Key → W
  | .inl i => .int i
  | .inr x => .str x
theorem kW_rw (k : Key) : RW G m n H (kW k) (kV k) := by cases k <;> first | exact .int _ | exact .str _
def bLst3 : List W → Hpe → Res W
  | [.ref n], h => match h.get n with
    | some (.dk kvs) => h.al (.lst (kvs.map fun kv => kW kv.1))
    | _ => bLst [.ref n] h
  | ws, h => bLst ws h
def rLst3 (G : GC) : List V → Hp → VK → Prop := fun xs H Q => (∃ p ys, xs = [V.ref p] ∧ (SqL G.K H p ys ∨ SqT G.K H p ys) ∧ ∀ (l : Addr), H l = none → Q (V.ref l) (upd H l (HO.lst ys))) ∨
  ∃ (a : Addr) (kvs : List (Key × V)), xs = [.ref a] ∧ Rd H a (.dK kvs) ∧ ∀ p, H p = none → Q (.ref p) (upd H p (.lst (kvs.map fun kv => kV kv.1)))
theorem keys_rw : ∀ {kvs : List (Key × W)} {kus : List (Key × V)}, kvs.map (·.1) = kus.map (·.1) → RWs G m n H (kvs.map fun kv => kW kv.1) (kus.map fun kv => kV kv.1)
  | [], [], _ => .nil
  | [], _ :: _, h => by simp at h
  | _ :: _, [], h => by simp at h
  | p :: kvs, q :: kus, h => by
    simp only [List.map_cons, List.cons.injEq] at h
    rw [List.map_cons, List.map_cons, h.1]
    exact .cons (kW_rw _) (keys_rw h.2)
theorem cs_lst3 : ClS G (rLst3 G) bLst3 := by
  intro cl Wx m h H ws vs Q rh r o
  unfold bLst3 at o
  split at o
  · rename_i n
    obtain ⟨v, rfl, rv⟩ := rws_one r
    obtain ⟨rfl, hn⟩ := rw_ref rv
    split at o
    · rename_i kvs e
      have e1 : rdK h n = some kvs := by unfold rdK; rw [e]
      obtain ⟨kus, eH, h1, h2⟩ := rh.dk hn e1
      exact .inr ⟨_, kus, rfl, .inl eH, al_ok rh o (.lst (keys_rw h1))⟩
    · exact .inl (cs_lst cl Wx m h H _ _ Q rh (.cons (.ref n hn) .nil) o)
  · exact .inl (cs_lst cl Wx m h H _ _ Q rh r o)
end
section
variable {X : Cx} {B : Bx} {e : Expr} {fs : FA} {pos p : Pos}
theorem se_len3 (hK : X.K = B.G.K) (hm' : Hm X B.G) (hm : X.mg "len" = none) (hg : Gl X "len") (ha : SA X B [e] fs) (h3 : starEach [e] X.env = (false, eval e X.env) :: starEach [] X.env) (h4 : (backTo pos (starEach [] X.env)).any (·.1) = false) : SE X B (.Call (.Name "len" p) [e] [] pos) (eBl bLen3 fs) :=
  se_bl' (r := rLen3 B.G) (CallR.or (by rw [← hK]; exact call_len_seq) (call_len_str.or (CallR.or (by rw [← hm'.w]; exact cr_lenS) (call_lenD.or (cr_lenN hK hm'))))) cs_len3 hg hm PySem.boot_len ha (by decide) (by decide) h3 h4
theorem se_lst3 (hK : X.K = B.G.K) (hc : X.calm = true) (hm : X.mg "list" = none) (hg : Gl X "list") (ha : SA X B [e] fs) (h3 : starEach [e] X.env = (false, eval e X.env) :: starEach [] X.env) (h4 : (backTo pos (starEach [] X.env)).any (·.1) = false) : SE X B (.Call (.Name "list" p) [e] [] pos) (eBl bLst3 fs) :=
  se_ty (r := rLst3 B.G) (CallR.or (by rw [← hK]; exact call_list_of) (call_listD hc)) cs_lst3 hg hm (by decide +kernel) ha (by decide) (by decide) h3 h4
end
end EV
namespace EV
open PySem PySem.Spec PyProof.Rows L2
def gTL (n : Nat) (gs : FGs) : FG := fun w ρ h => match rdS w h with
  | some ws => bif Nat.beq ws.length n then gs ws ρ h else .no
  | none => .no
section
variable {X : Cx} {B : Bx} {tgs : List Expr} {gs : FGs} {us : List Nat} {pos : Pos}
theorem pg_seq {K : PySem.W.Frag} {tg : Expr} {t t' : TG} (h : PG X tg t) (h' : PG X tg t') : PG X tg (fun v σ H Q => t v σ H Q ∨ t' v σ H Q) :=
  ⟨fun pins s σ H v u Q I r q => q.elim (h.run pins s σ H v u Q I r) (h'.run pins s σ H v u Q I r)⟩
theorem sg_tl (hK : X.K = B.G.K) {n k : Nat} (hc : X.calm = true) (h : SGs X B tgs gs us) (hn : (assignEach tgs X.env).length = n) (hst : (assignEach tgs X.env).findIdx? (·.1) = none) : SG X B (.Tuple tgs k pos) (gTL n gs) us :=
  pg_imp (pg_seq (K := X.K) (pg_tup hc h hn hst) (pg_unl hc h hn hst)) fun v σ H Q ⟨m, h, ρ, w, s, r, o⟩ => by
    simp only [gTL] at o
    split at o
    · rename_i ws e
      obtain ⟨p, xs, rfl, sq, q⟩ := rdS_ok s.rh r e
      cases c : Nat.beq ws.length n with
      | false => rw [c] at o; exact o.elim
      | true =>
        rw [c] at o
        rcases sq with sq | sq
        · exact .inr ⟨p, xs, rfl, by rw [hK]; exact sq, by rw [← q.len]; exact beq_eq c, m, h, ρ, ws, s, q, o⟩
        · exact .inl ⟨p, xs, rfl, by rw [hK]; exact sq, by rw [← q.len]; exact beq_eq c, m, h, ρ, ws, s, q, o⟩
    · exact o.elim
end
end EV
namespace EV
open PySem PySem.Spec PyProof.Rows L2
section
variable {X : Cx}
end
section
variable {G : GC} {m : Nat → Addr} {n : Nat} {H : Hp} {h : Hpe}
def noneW (h : Hpe) : W → Option Bool
  | .non => some true
  | .bl _ => some false
  | .int _ => some false
  | .str _ => some false
  | .tup _ => some false
  | .ref n => match rdL h n with
    | some _ => some false
    | none => none
  | .df _ => none
  | .clo _ _ => none
end
def Put1 (K : PySem.W.Frag) (P : Program) (w : World) (p : Addr) (x y : V) (H H' : Hp) : Prop :=
  (∃ b k xs, x = .ref b ∧ DnAt P w K H p xs ∧ Nk K H k x ∧ k.depth ≤ 8 ∧ xs.length < sizeLine ∧ H' = upd H p (dnO P w p (putV xs k b y))) ∨
  ∃ kvs k, x = kV k ∧ H p = some (.dK kvs) ∧ kvs.length < sizeLine ∧ H' = upd H p (.dK (putK kvs k y))
inductive Puts (K : PySem.W.Frag) (P : Program) (w : World) (p : Addr) : List (V × V) → Hp → Hp → Prop
  | nil {H : Hp} : Puts K P w p [] H H
  | cons {x y : V} {r : List (V × V)} {H H1 H2 : Hp} : Put1 K P w p x y H H1 → Puts K P w p r H1 H2 → Puts K P w p ((x, y) :: r) H H2
section
variable {X : Cx} {pins : List (Addr × Obj)} {σ : L2.St} {H : Hp} {s : Shared} {p : Addr} {A : Around} {E : Value → Shared → Prop}
end
section
variable {G : GC} {m : Nat → Addr} {H : Hp} {h h' : Hpe} {n : Nat}
end
section
variable {X : Cx} {B : Bx} {a b : Expr} {fa fb : FE} {pos : Pos} {keys : List (Option Expr)} {values : List Expr} {ps : Prs}
end
end EV
namespace EV
open PySem PySem.Spec PyProof.Rows L2
section
variable {X : Cx}
end
section
variable {G : GC} {m : Nat → Addr} {n : Nat} {H : Hp} {h : Hpe}
def atWd : W → Option PyData
  | .non => some .none
  | .bl b => some (.bool b)
  | .int i => some (.int i)
  | .str x => some (.str x)
  | _ => none
def eqW (d : PyData) (w : W) : Bool := match atWd w with
  | some e => PyData.eqv e d
  | none => false
def layW (w : W) : Bool := match atWd w with
  | some e => e.canLay0
  | none => true
def inF (neg : Bool) (a b : W) (h : Hpe) : Option Bool := match atWd a, rdS b h with
  | some d, some ws => match mapO (noneW h) ws with
    | some _ => bif d.canLay0 && ws.all layW then some (neg != ws.any (eqW d)) else none
    | none => none
  | _, _ => none
end
section
variable {X : Cx} {B : Bx} {a b : Expr} {fa fb : FE} {pos : Pos}
end
end EV
namespace EV
open PySem PySem.Spec PyProof.Rows L2
section
variable {X : Cx}
end
section
variable {G : GC} {m : Nat → Addr} {n : Nat} {H : Hp} {h : Hpe}
end
section
variable {X : Cx} {B : Bx} {a b : Expr} {fa fb : FE} {pos : Pos}
end
end EV
namespace EV
open PySem PySem.Spec PyProof.Rows L2
theorem note_by {e : Value} {env env' : Env} (h : env.frame = env'.frame) : noteFrame e env = noteFrame e env' := by
  unfold noteFrame PySem.frameOf
  simp only [h]
section
variable {M : Model} {A : Around} {E₁ : Value → Shared → Prop} {s : Shared} {base : Heap} {Z : Obj → Prop} {env : Env} {outer : List Env} {e L : Addr}
theorem note_other {fl : Value} {Q : Unit → Shared → Prop} (hZ : HandSPX.Steady Z) (hfr : A.frames = some (env :: outer)) (hf : env.frame = some L) (kb : base.StaysIn s.heap) (en : base.get? e = none) (hl : s.heap.FunFrames base (env :: outer)) (ht : HandSPX.TracedZ s.heap base e Z fl) (hne : (fl == rawInt L) = false)
    (q : ∀ h', HandSPX.HeldZ base (env :: outer) e Z L h' → s.heap.UpToSlots h' → Q () { s with heap := h' }) : wpAny M A (noteFrame (.ref e) env) Q E₁ s := by
  obtain ⟨oe, vs, T, oT, ts, he, hz, hd, h1, hnT, hTe, hT, hdT, h3⟩ := ht
  unfold noteFrame
  simp only [hf]
  refine wpAny_bind (wpAny_field he hd h1 (wp_if_pos (by simp) (wpAny_bind (wpAny_field hT hdT h3 ?_))))
  rw [hne]
  have sz := (Array.getElem?_eq_some_iff.mp h3).1
  refine wp_if_neg Bool.false_ne_true (wpAny_bind (wpAny_setField hT hdT sz ?_))
  have same : ∀ b, b ≠ T → (s.heap.update T (Obj.mapFields (·.setIfInBounds 3 Value.none))).get? b = s.heap.get? b := fun b hb => Heap.get?_update_other _ _ (Ne.symm hb)
  have notT : ∀ b o, s.heap.get? b = some o → (∀ vs, o.data ≠ .fields vs) → b ≠ T := fun b o hb hn z => by
    rw [z, hT] at hb; cases hb; exact hn ts hdT
  refine HandSPX.wpAny_entryZ hZ hfr (hl.of_keeps fun b o hb hn => ⟨o, (same b (notT b o hb hn)).trans hb, rfl⟩) hf ((same e (Ne.symm hTe)).trans he) (fun b o hb => (same b fun z => by rw [z, hnT] at hb; cases hb).trans (kb b o hb)) en hd (Array.getElem?_eq_some_iff.mp h1).1 hz fun h' x => ?_
  obtain ⟨x1, x2, x3, x4⟩ := x
  exact q h' ⟨x1, en, x2, x3⟩ fun b o hb hn => x4 b o ((same b (notT b o hb hn)).trans hb) hn
end
theorem funFrames_at {base h h' : Heap} : ∀ {l : List Env}, h.FunFrames base l → (∀ L ∈ frs l, h'.get? L = h.get? L) → h'.FunFrames base l
  | [], _, _ => trivial
  | env :: l, x, k => by
    obtain ⟨hk, ⟨L, o, hf, hn, ho, hd⟩, hr⟩ := x
    exact ⟨hk, ⟨L, o, hf, hn, (k L (List.mem_filterMap.mpr ⟨env, List.mem_cons_self .., hf⟩)).trans ho, hd⟩, funFrames_at hr fun b hb => by
      obtain ⟨e, he, q⟩ := List.mem_filterMap.mp hb
      exact k b (List.mem_filterMap.mpr ⟨e, List.mem_cons_of_mem _ he, q⟩)⟩
def StkAt (X : Cx) (L : Addr) : Prop := ∃ env0 outer0, X.stack = env0 :: outer0 ∧ env0.frame = some L ∧ X.env.frame = some L
def XEH (X : Cx) (L : Addr) (W : WX) (u : Value) (s' : Shared) : Prop :=
  ∃ (a : Addr) (B : Heap) (sI : Shared) (pins : List (Addr × Obj)) (σ : L2.St) (H : Hp) (cls : Value) (d : Option Addr),
    u = .ref a ∧ Inv X pins σ H sI ∧ (∀ b o, sI.heap.get? b = some o → b ∉ frs X.stack → B.get? b = some o) ∧ sI.heap.UpToSlots s'.heap ∧
      HandSPX.HeldZ B X.stack a (Zc cls d) L s'.heap ∧ H a = none ∧ s'.os = sI.os ∧ AllBare s'.gens ∧ W cls d σ H
def TakesH (X : Cx) (L : Addr) (W : WX) : Prop := ∀ u s', XEH X L W u s' → X.xe u s'
theorem takesH_of {X : Cx} {L : Addr} {W : WX} (tk : Takes X W) (e : X.env.locals = L) : TakesH X L W := fun u s' ⟨a, B, sI, pins, σ, H, cls, d, eu, I, nb, up, hd, na, os, ag, w⟩ =>
  tk u s' ⟨a, B, sI, pins, σ, H, cls, d, eu, I, nb, up, .inr (.inr (by rw [e]; exact hd)), na, os, ag, w⟩
abbrev blkX (X : Cx) (s : Shared) (H : Hp) (scope : Scope) (cenv : Env) (fp : List Addr) : Cx :=
  { X.blk s H scope cenv fp with xe := notedBy (model X.prog X.w) X.A cenv (CompFails (model X.prog X.w) X.A X.xe cenv) }
theorem Inv.out {X : Cx} {xe : Value → Shared → Prop} {pins : List (Addr × Obj)} {σ : L2.St} {H : Hp} {s : Shared} (I : Inv X pins σ H s) : Inv { X with xe := xe } pins σ H s :=
  ⟨⟨I.ok.mod, I.ok.kind, I.ok.glob, I.ok.blt, I.ok.above, I.ok.inj, I.ok.has, I.ok.cab, I.ok.hd, I.ok.frames, I.ok.stk, I.ok.exf, I.ok.bs, I.ok.bsz, I.ok.noex, I.ok.exfs, I.ok.funs, I.ok.frf⟩, I.os, I.bare, I.base, I.loc, I.cell, I.free, I.freeC, I.pin, I.hok, I.len⟩
section
variable {X : Cx} {pins : List (Addr × Obj)} {σ : L2.St} {H3 : Hp} {s3 : Shared} {scope : Scope} {ce : Env} {fp : List Addr} {L : Addr} {W : WX}
theorem blk_out (st : StkAt X L) (th : TakesH X L W) (I3 : Inv X pins σ H3 s3) (f3 : ∀ b ∈ fp, FpOk X pins H3 b ∧ b < s3.heap.objs.size) (hC : ce.locals = s3.heap.objs.size) (hcf : ce.frame = X.env.frame)
    {a : Addr} {B : Heap} {sI s' : Shared} {pins' : List (Addr × Obj)} {σ' : L2.St} {H : Hp} {cls : Value} {d : Option Addr} (I : Inv (blkX X s3 H3 scope ce fp) pins' σ' H sI) (nb : ∀ b o, sI.heap.get? b = some o → b ∉ frs X.stack → B.get? b = some o) (up : sI.heap.UpToSlots s'.heap)
    (na : H a = none) (os : s'.os = sI.os) (ag : AllBare s'.gens) (w : W cls d σ H) {h1 : Heap} (hd : HandSPX.HeldZ B X.stack a (Zc cls d) L h1) (up1 : s'.heap.UpToSlots h1) :
    CompFails (model X.prog X.w) X.A X.xe ce (.ref a) { s' with heap := h1 } := by
  obtain ⟨env0, outer0, e1, e2, e3⟩ := st
  have upI : sI.heap.UpToSlots h1 := up.trans up1
  obtain ⟨mm, hn, _⟩ := I.loc
  have hn : sI.heap.Ns ce.locals mm := hn
  have hn1 : h1.Ns ce.locals mm := Heap.UpToSlots.ns upI hn
  obtain ⟨oC, esC, epC, hoC, hdC, _⟩ := id hn1
  refine ⟨mm, hn1, fun h2 m2 hn2 sb => ?_⟩
  obtain ⟨k1, k2, k3, oe, vs, T, oT, ts, he, hz, hde, h1e, hnT, hTe, hT, hdT, h3⟩ := hd
  have eC : a ≠ ce.locals := fun z => by rw [z, hoC] at he; cases he; rw [hdC] at hde; cases hde
  have TC : T ≠ ce.locals := fun z => by rw [z, hoC] at hT; cases hT; rw [hdC] at hdT; cases hdT
  obtain ⟨B2, b1, b2⟩ := restrict B fun b => decide (b ≠ ce.locals)
  have inB : ∀ b o, B2.get? b = some o → b ≠ ce.locals ∧ B.get? b = some o := fun b o e => by
    by_cases c : b = ce.locals
    · rw [b2 b (by simp [c])] at e; cases e
    · exact ⟨c, by rw [← b1 b (by simp [c])]; exact e⟩
  obtain ⟨G, g1, g2⟩ := restrict sI.heap fun b => decide (b ≠ ce.locals)
  have inG : ∀ b o, G.get? b = some o → b ≠ ce.locals ∧ sI.heap.get? b = some o := fun b o e => by
    by_cases c : b = ce.locals
    · rw [g2 b (by simp [c])] at e; cases e
    · exact ⟨c, by rw [← g1 b (by simp [c])]; exact e⟩
  have nfr : ce.locals ∉ frs X.stack := fun z => by
    obtain ⟨_, o, ho, _⟩ := (I3.stack).mem z
    have := Heap.lt_size ho
    rw [hC] at this
    exact absurd this (Nat.lt_irrefl _)
  have kb2 : B2.StaysIn h2 := fun b o e => by
    obtain ⟨c, e⟩ := inB b o e
    exact (sb.2 b c).trans (k1 b o e)
  have a2 : B2.get? a = none := by
    cases q : B2.get? a with
    | none => rfl
    | some o => have := (inB a o q).2; rw [k2] at this; cases this
  have T2 : B2.get? T = none := by
    cases q : B2.get? T with
    | none => rfl
    | some o => have := (inB T o q).2; rw [hnT] at this; cases this
  have ff2 : h2.FunFrames B2 X.stack := by
    refine funFrames_none (funFrames_at k3 fun b hb => sb.2 b fun z => nfr (by rw [← z]; exact hb)) fun b hb => ?_
    cases q : B2.get? b with
    | none => rfl
    | some o => have := (inB b o q).2; rw [(k3.mem hb).1] at this; cases this
  have he2 : h2.get? a = some oe := (sb.2 a eC).trans he
  have tr2 : HandSPX.TracedZ h2 B2 a (Zc cls d) (rawInt L) := ⟨oe, vs, T, oT, ts, he2, hz, hde, h1e, T2, hTe, (sb.2 T TC).trans hT, hdT, h3⟩
  have up2 : G.UpToSlots h2 := fun b o e hnf => by
    obtain ⟨c, e⟩ := inG b o e
    obtain ⟨sl, q⟩ := upI b o e hnf
    exact ⟨sl, (sb.2 b c).trans q⟩
  unfold PySem.passOn
  refine wpAny_bind (wpAny_field (s := { s' with heap := h2 }) he2 hde h1e (wp_if_neg (by simp) (wpAny_bind ?_)))
  rw [hcf, e3]
  refine HandSPX.setFlight_anyZ (s := { s' with heap := h2 }) kb2 ff2 tr2 fun h4 x1 x2 x3 x4 => wpAny_throw (th _ _ ?_)
  -- the def's own state without the block
  have I7 : Inv X pins σ H sI := I3.call' (ch := fp) I.os I.base I.hok I.bare fun b hb => ⟨(f3 b hb).1.2.2.2.1, (f3 b hb).1.2.1, (f3 b hb).1.2.2.2.2.1, (f3 b hb).1.2.2.2.2.2⟩
  have nC : H ce.locals = none := I.free
  obtain ⟨q0, q1, q2, q3, q4, q5⟩ := I3.fpOk (b := ce.locals) (Nat.le_of_eq hC.symm) nC
  have I8 : Inv X pins σ H { sI with heap := G, toks := sI.toks } := I7.turned (fun b o hb e => by rw [g1 b (by simp [hb])]; exact e) q0 q1 q3 q4 q5
  exact ⟨a, B2, _, pins, σ, H, cls, d, rfl, I8, fun b o e hb => by
    obtain ⟨c, e⟩ := inG b o e
    rw [b1 b (by simp [c])]
    exact nb b o e hb, up2.trans x4, ⟨x1, a2, x2, x3⟩, na, os, ag, w⟩
theorem blk_takes (st : StkAt X L) (th : TakesH X L W) (I3 : Inv X pins σ H3 s3) (f3 : ∀ b ∈ fp, FpOk X pins H3 b ∧ b < s3.heap.objs.size) (hC : ce.locals = s3.heap.objs.size) (hcf : ce.frame = X.env.frame) :
    Takes (blkX X s3 H3 scope ce fp) (fun c d _ H => W c d σ H) ∧ TakesH (blkX X s3 H3 scope ce fp) L (fun c d _ H => W c d σ H) := by
  obtain ⟨env0, outer0, e1, e2, e3⟩ := id st
  have hfr : X.A.frames = some (env0 :: outer0) := by rw [I3.ok.frames, e1]
  refine ⟨fun u s' x => ?_, fun u s' x => ?_⟩
  · obtain ⟨a, B, sI, pins', σ', H, cls, d, rfl, I, nb, up, sky, na, os, ag, w⟩ := x
    show wpAny _ _ (noteFrame (.ref a) ce) _ _ s'
    rw [note_by (env' := env0) (hcf.trans (e3.trans e2.symm))]
    have fin : ∀ h1, HandSPX.HeldZ B (env0 :: outer0) a (Zc cls d) L h1 → s'.heap.UpToSlots h1 → CompFails (model X.prog X.w) X.A X.xe ce (.ref a) { s' with heap := h1 } := fun h1 hh up1 =>
      blk_out st th I3 f3 hC hcf I nb up na os ag w (by rw [e1]; exact hh) up1
    have sky : Sky B (env0 :: outer0) a (Zc cls d) ce.locals s'.heap := by rw [← e1]; exact sky
    rcases sky with ⟨hB, hn, hl, oe, vs, he, hz, hd, h1⟩ | fl | hh
    · exact HandSPX.look_newZ Zc.steady hfr hl e2 he hB hn hd h1 hz fin
    · exact HandSPX.looks_onZ Zc.steady hfr e2 fl fin
    · obtain ⟨y1, y2, y3, y4⟩ := hh
      refine note_other Zc.steady hfr e2 y1 y2 y3 y4 ?_ fin
      cases c : (rawInt ce.locals == rawInt L) with
      | false => rfl
      | true =>
        exfalso
        have e : ce.locals = L := by
          have := eq_of_beq c
          unfold rawInt at this
          injection this with this
          exact Int.ofNat.inj this
        have hm : L ∈ frs X.stack := by rw [e1]; exact List.mem_filterMap.mpr ⟨env0, List.mem_cons_self .., e2⟩
        obtain ⟨_, o, ho, _⟩ := I3.stack.mem hm
        have := Heap.lt_size ho
        rw [← e, hC] at this
        exact absurd this (Nat.lt_irrefl _)
  · obtain ⟨a, B, sI, pins', σ', H, cls, d, rfl, I, nb, up, hh, na, os, ag, w⟩ := x
    show wpAny _ _ (noteFrame (.ref a) ce) _ _ s'
    rw [note_by (env' := env0) (hcf.trans (e3.trans e2.symm))]
    have hh : HandSPX.HeldZ B X.stack a (Zc cls d) L s'.heap := hh
    exact HandSPX.againZ e2 hh.2.2.2 (blk_out st th I3 f3 hC hcf I nb up na os ag w hh (Heap.UpToSlots.refl _))
end
end EV
namespace EV
open PySem PySem.Spec PyProof.Rows L2
inductive CK where
  | lst (e : Expr)
  | set (e : Expr)
  | dct (k v : Expr)
abbrev CK.ex (c : CK) (gens : List Comprehension) (scope : Scope) (pos : Pos) : Expr := match c with
  | .lst e => .ListComp e gens scope pos
  | .set e => .SetComp e gens scope pos
  | .dct k v => .DictComp k v gens scope pos
def CK.more (c : CK) (D : Addr) (env : Env) : Sem Unit := match c with
  | .lst e => eval e env >>= fun x => call (.builtin "list.append") [.ref D, x] >>= fun _ => pure ()
  | .set e => eval e env >>= fun v => standAt e.pos >>= fun _ => call (.builtin "set.add") [.ref D, v] >>= fun _ => pure ()
  | .dct k v => eval k env >>= fun kv => holding [kv] (eval v env) >>= fun vv => standAt { k.pos with endLine := v.pos.endLine, endCol := v.pos.endCol } >>= fun _ => holding [kv, vv] (dictSet D kv vv)
section
variable {prog : Program} {w : World} {A : Around} {s : Shared} {c : CK} {gens : List Comprehension} {scope : Scope} {pos : Pos} {j : Nat} {it : Value} {D : Addr} {env : Env} {tg iter : Expr} {ifs : List Expr}
def BodyOk (prog : Program) (w : World) (A : Around) (c : CK) (gens : List Comprehension) (scope : Scope) (pos : Pos) (j : Nat) (D : Addr) (env : Env) (NE : Value → Shared → Prop) (P : Shared → Prop) (s : Shared) : Prop := match gens[j + 1]? with
  | some g => wpAny (model prog w) A (eval g.iter env) (fun x s4 => wpAny (model prog w) A (pyIter x) (fun it1 s5 => codeAny (model prog w) A (.compStart (c.ex gens scope pos) (j + 1) it1 (.ref D) env) (fun r s' => match r with
      | .ok _ => P s'
      | .error e => cameBackBy (model prog w) A env NE e s') s5) NE s4) NE s
  | none => wpAny (model prog w) A (c.more D env) (fun _ s5 => P s5) NE s
def testsC (ifs : List Expr) (env : Env) : Sem Bool := forIn ifs true fun c r => if r = true then do let ok ← isTrue c env (eval c env); pure (ForInStep.yield ok) else pure (ForInStep.yield r)
theorem turn_wp (hg : gens[j]? = some ⟨tg, iter, ifs, 0⟩) (h0 : ∀ g, gens[j + 1]? = some g → g.is_async = 0 ∧ ∀ x, foldedSetIterable g.iter env x = pure x) {Q : PySem.Fin → Shared → Prop} {NE : Value → Shared → Prop} {P : Shared → Prop}
    (hP : ∀ s', P s' → Q (.again (.compLoop (c.ex gens scope pos) j it (.ref D) env)) s')
    (h : wpAny (model prog w) A (pyNext it) (fun r s1 => match r with
      | none => Q (.done .next) s1
      | some v => wpAny (model prog w) A (letOwnedTupleGo tg it v) (fun _ s2 => wpAny (model prog w) A (assign tg env v) (fun _ s3 => wpAny (model prog w) A (testsC ifs env) (fun ok s4 =>
          if ok = true then BodyOk prog w A c gens scope pos j D env NE P s4 else P s4) NE s3) NE s2) NE s1) NE s) :
    wpAny (model prog w) A (compTurn (c.ex gens scope pos) j it (.ref D) env) Q NE s := by
  have last : ∀ s', P s' → wpAny (model prog w) A (again (.compLoop (c.ex gens scope pos) j it (.ref D) env)) Q NE s' := fun s' p => wpAny_pure (hP s' p)
  cases hn : gens[j + 1]? with
  | none =>
    have body : ∀ s4, BodyOk prog w A c gens scope pos j D env NE P s4 → wpAny (model prog w) A (c.more D env) (fun _ s5 => P s5) NE s4 := fun s4 b => by
      unfold BodyOk at b
      rw [hn] at b
      exact b
    cases c <;>
    · unfold compTurn
      simp only [hg, hn]
      refine wpAny_bind (wpAny_standAt (wpAny_bind (wpAny_mono h (fun r s1 h1 => ?_) fun _ _ z => z)))
      cases r with
      | none => exact wpAny_pure h1
      | some v =>
        refine wpAny_bind (wpAny_mono h1 (fun _ s2 h2 => wpAny_bind (wpAny_mono h2 (fun _ s3 h3 => wpAny_bind (wpAny_mono h3 (fun ok s4 h4 => ?_) fun _ _ z => z)) fun _ _ z => z)) fun _ _ z => z)
        cases ok with
        | false => exact last s4 h4
        | true => exact wp_if_pos rfl (wpAny_bind (wpAny_mono (body s4 h4) (fun _ s5 p => last s5 p) fun _ _ z => z))
  | some g =>
    obtain ⟨as0, fold0⟩ := h0 g hn
    have body : ∀ s4, BodyOk prog w A c gens scope pos j D env NE P s4 → wpAny (model prog w) A (eval g.iter env) (fun x s4 => wpAny (model prog w) A (pyIter x) (fun it1 s5 => codeAny (model prog w) A (.compStart (c.ex gens scope pos) (j + 1) it1 (.ref D) env) (fun r s' => match r with
        | .ok _ => P s'
        | .error e => cameBackBy (model prog w) A env NE e s') s5) NE s4) NE s4 := fun s4 b => by
      unfold BodyOk at b
      rw [hn] at b
      exact b
    cases c <;>
    · unfold compTurn
      simp only [hg, hn]
      refine wpAny_bind (wpAny_standAt (wpAny_bind (wpAny_mono h (fun r s1 h1 => ?_) fun _ _ z => z)))
      cases r with
      | none => exact wpAny_pure h1
      | some v =>
        refine wpAny_bind (wpAny_mono h1 (fun _ s2 h2 => wpAny_bind (wpAny_mono h2 (fun _ s3 h3 => wpAny_bind (wpAny_mono h3 (fun ok s4 h4 => ?_) fun _ _ z => z)) fun _ _ z => z)) fun _ _ z => z)
        cases ok with
        | false => exact last s4 h4
        | true =>
          refine wp_if_pos rfl ?_
          simp only [as0]
          refine wpAny_bind (wpAny_mono (body s4 h4) (fun x s5 h5 => ?_) fun _ _ z => z)
          refine wpAny_bind (wpAny_standAt (wpAny_bind (wpAny_of_eq (fold0 x) (wpAny_bind (wpAny_holding (wpAny_mono h5 (fun it1 s6 h6 => ?_) fun _ _ z => z))))))
          refine wpAny_bind (wpAny_runOwn ?_)
          rw [Around.mark_none]
          refine codeAny_mono h6 fun r s' hr => ?_
          cases r with
          | ok f => exact last s' hr
          | error e => exact hr
theorem loop_at (hg : gens[j]? = some ⟨tg, iter, ifs, 0⟩) (h0 : ∀ g, gens[j + 1]? = some g → g.is_async = 0 ∧ ∀ x, foldedSetIterable g.iter env x = pure x) {R : Result → Shared → Prop} (I : Nat → Shared → Prop)
    (turn : ∀ n s, I n s → wpAny (model prog w) A (pyNext it) (fun r s1 => match r with
      | none => R (.ok .next) s1
      | some v => wpAny (model prog w) A (letOwnedTupleGo tg it v) (fun _ s2 => wpAny (model prog w) A (assign tg env v) (fun _ s3 => wpAny (model prog w) A (testsC ifs env) (fun ok s4 =>
          if ok = true then BodyOk prog w A c gens scope pos j D env (notedBy (model prog w) A env fun e s' => R (.error e) s') (fun s' => ∃ m, m < n ∧ I m s') s4 else ∃ m, m < n ∧ I m s4)
          (notedBy (model prog w) A env fun e s' => R (.error e) s') s3) (notedBy (model prog w) A env fun e s' => R (.error e) s') s2) (notedBy (model prog w) A env fun e s' => R (.error e) s') s1) (notedBy (model prog w) A env fun e s' => R (.error e) s') s)
    (n : Nat) (h : I n s) : codeAny (model prog w) A (.compLoop (c.ex gens scope pos) j it (.ref D) env) R s := by
  cases c <;>
  · refine codeAny_loop rfl I (fun n s hI => ?_) n h
    refine wpAny_noted (m := compTurn _ j it (.ref D) env) ?_
    exact turn_wp hg h0 (fun s' p => ⟨rfl, p⟩) (turn n s hI)
theorem start_at (hg : gens[j]? = some ⟨tg, iter, ifs, 0⟩) {R : Result → Shared → Prop} (h1 : codeAny (model prog w) A (.compLoop (c.ex gens scope pos) j it (.ref D) env) R s)
    (h2 : wpAny (model prog w) A (pyIter it) (fun it' s' => codeAny (model prog w) A (.compLoop (c.ex gens scope pos) j it' (.ref D) env) R s') (notedBy (model prog w) A env fun x s' => R (.error x) s') s) :
    codeAny (model prog w) A (.compStart (c.ex gens scope pos) j it (.ref D) env) R s := by
  cases c <;>
  · refine codeAny_of_tree ?_
    refine wpAny_notedAt (m := compStart _ j it (.ref D) env) ?_
    unfold compStart
    simp only [CK.ex, clausesOf, hg]
    refine wpAny_bind (wpAny_askSetting (wpAny_ite ?_))
    split
    · exact wpAny_bind (wpAny_pure (wpAny_pure ⟨rfl, h1⟩))
    · exact wpAny_bind (wpAny_rule (wpAny_bind (wpAny_standAt (wpAny_bind (wpAny_mono h2 (fun it' s' h' => wpAny_pure ⟨rfl, h'⟩) fun _ _ x => x)))))
end
end EV
namespace EV
open PySem PySem.Spec PyProof.Rows L2
abbrev TB := L2.St → Hp → (Hp → Prop) → Prop
theorem BodyOk.mono {prog : Program} {w : World} {A : Around} {s : Shared} {c : CK} {gens : List Comprehension} {scope : Scope} {pos : Pos} {j : Nat} {D : Addr} {env : Env} {NE : Value → Shared → Prop} {P P' : Shared → Prop} (h : BodyOk prog w A c gens scope pos j D env NE P s) (f : ∀ s', P s' → P' s') : BodyOk prog w A c gens scope pos j D env NE P' s := by
  unfold BodyOk at h ⊢
  split at h
  · rename_i g e
    refine wpAny_mono h (fun x s4 h4 => wpAny_mono h4 (fun it1 s5 h5 => codeAny_mono h5 fun r s' hr => ?_) fun _ _ z => z) fun _ _ z => z
    cases r with
    | ok _ => exact f s' hr
    | error _ => exact hr
  · exact wpAny_mono h (fun _ s5 p => f s5 p) fun _ _ z => z
structure PBd (X : Cx) (c : CK) (gens : List Comprehension) (scope : Scope) (pos : Pos) (j : Nat) (D : Addr) (bt : TB) (vs : List Nat) : Prop where
  run : ∀ (pins : List (Addr × Obj)) (s : Shared) (σ : L2.St) (H : Hp) (Q : Hp → Prop) (NE : Value → Shared → Prop), Inv X pins σ H s → bt σ H Q → (∀ e s', X.xe e s' → NE e s') →
    BodyOk X.prog X.w X.A c gens scope pos j D X.env NE (fun s' => ∃ H', Inv X pins (L2.wipe σ vs) H' s' ∧ Q H') s
def Turns (J : It) (g : TG) (tt : TT) (bt : TB) (vs : List Nat) (σ : L2.St) (Q : Hp → Prop) (W : Nat → Nat → Hp → Prop) : Prop := ∀ i m H, W i m H → (J.stop i H ∧ Q H) ∨ (J.go i H ∧ ∃ Nx : Hp → Prop, (∀ H', Nx H' → ∃ m', m' < m ∧ W (i + 1) m' H') ∧
  ∀ x H', J.yld i H x H' → g x (L2.wipe σ vs) H' fun σ2 H2 => L2.wipe σ2 vs = L2.wipe σ vs ∧ tt σ2 H2 fun b H3 => if b = true then bt σ2 H3 Nx else Nx H3)
section
variable {X : Cx} {c : CK} {gens : List Comprehension} {scope : Scope} {pos : Pos} {j : Nat} {D : Addr} {tg iter : Expr} {ifs : List Expr} {wi : TI} {g : TG} {tt : TT} {bt : TB} {vs vsI : List Nat}
def GensOk (gens : List Comprehension) (env : Env) (j : Nat) : Prop := ∀ g, gens[j + 1]? = some g → g.is_async = 0 ∧ ∀ x, foldedSetIterable g.iter env x = pure x
theorem loop_run (hc : X.calm = true) (hg : gens[j]? = some ⟨tg, iter, ifs, 0⟩) (h0 : GensOk gens X.env j) (pg : PG X tg g) (pt : PTs X ifs tt) (pb : PBd X c gens scope pos j D bt vsI) (hsub : ∀ i ∈ vsI, i ∈ vs)
    {it : Addr} {fp : List Addr} {tn : Nat → Heap → Prop} {J : It} (T : Turn X.prog X.w X.K tg J fp it tn) {pins : List (Addr × Obj)} {σ : L2.St} (sta : ∀ H' : Hp, (∀ b ∈ fp, H' b = none) → ∀ b ∈ fp, FpOk X pins H' b) {Q : Hp → Prop} {W : Nat → Nat → Hp → Prop} (turn : Turns J g tt bt vs σ Q W)
    {R : Result → Shared → Prop} (Rok : ∀ s' H', Inv X pins (L2.wipe σ vs) H' s' → Q H' → R (.ok .next) s') (Rer : ∀ e s', X.xe e s' → notedBy (model X.prog X.w) X.A X.env (fun e s' => R (.error e) s') e s')
    {m : Nat} {H : Hp} {s : Shared} (I : Inv X pins (L2.wipe σ vs) H s) (st : tn 0 s.heap) (nfp : ∀ b ∈ fp, H b = none) (w0 : W 0 m H) : codeAny (model X.prog X.w) X.A (.compLoop (c.ex gens scope pos) j (.ref it) (.ref D) X.env) R s := by
  refine loop_at hg h0 (fun n s' => ∃ i H', Inv X pins (L2.wipe σ vs) H' s' ∧ tn i s'.heap ∧ (∀ b ∈ fp, H' b = none) ∧ W i n H') ?_ m ⟨0, H, I, st, nfp, w0⟩
  rintro n s5 ⟨i, H5, I5, st5, n5, w5⟩
  rcases turn i n H5 w5 with ⟨stop, q⟩ | ⟨go, Nx, next, step⟩
  · refine wpAny_mono (T.done X rfl rfl rfl hc i pins s5 _ H5 _ I5 (sta H5 n5) st5 stop) (fun r s6 ⟨hr, I6⟩ => ?_) fun _ _ z => z
    subst hr
    exact Rok s6 H5 I6 q
  · refine wpAny_mono (T.item X rfl rfl rfl hc i pins s5 _ H5 _ I5 (sta H5 n5) st5 go) (fun r s6 ⟨u, hr, h6⟩ => ?_) fun _ _ z => z
    subst hr
    refine wpAny_mono h6 (fun _ s7 ⟨x, H7, I7, r7, y7, st7, n7⟩ => ?_) fun _ _ z => z
    have I7' := I7.pinned (sta H7 n7) (T.obj _ _ st7)
    refine wpAny_mono (pg.run _ s7 _ H7 x u _ I7' r7 (step x H7 y7)) (fun _ s8 ⟨σ8, H8, I8, hw8, q8⟩ => ?_) Rer
    refine wpAny_mono (pt.run _ s8 σ8 H8 _ I8 q8) (fun b s9 ⟨H9, I9, q9⟩ => ?_) Rer
    have fin : ∀ {σ9 : L2.St} {s' : Shared} {H' : Hp}, Inv X (pins ++ pinsAt fp s7.heap) σ9 H' s' → (L2.wipe σ vs).length = σ9.length → (∀ (k : Nat) v, (L2.wipe σ vs)[k]? = some (some v) → σ9[k]? = some (some v)) → Nx H' →
        ∃ m, m < n ∧ ∃ i H', Inv X pins (L2.wipe σ vs) H' s' ∧ tn i s'.heap ∧ (∀ b ∈ fp, H' b = none) ∧ W i m H' := fun {σ9 s' H'} I' hl hk nx => by
      obtain ⟨m', hm, w'⟩ := next H' nx
      have pin' : ∀ b ∈ fp, ∀ o, s7.heap.get? b = some o → s'.heap.get? b = some o ∧ H' b = none := fun b hb o e =>
        let z := I'.pin (b, o) (List.mem_append_right _ (List.mem_append_right _ (mem_pinsAt hb e)))
        ⟨z.1, z.2.1⟩
      refine ⟨m', hm, i + 1, H', I'.unpinned.weak hl hk, T.keep _ _ _ st7 fun b hb o e => (pin' b hb o e).1, fun b hb => ?_, w'⟩
      obtain ⟨o, e, _⟩ := T.obj _ _ st7 b hb
      exact (pin' b hb o e).2
    have hl8 : (L2.wipe σ vs).length = σ8.length := by rw [← hw8, L2.wipe_length]
    cases b with
    | false =>
      rw [if_neg Bool.false_ne_true] at q9 ⊢
      exact fin I9 hl8 (fun k v e => by rw [← hw8] at e; exact (wipe_some e).1) q9
    | true =>
      rw [if_pos rfl] at q9 ⊢
      refine (pb.run _ s9 σ8 H9 Nx _ I9 q9 Rer).mono fun s' ⟨H', I', nx⟩ => fin I' (hl8.trans (L2.wipe_length σ8 vsI).symm) (fun k v e => ?_) nx
      rw [← hw8] at e
      obtain ⟨e1, e2⟩ := wipe_some e
      rw [wipe_out fun z => e2 (hsub k z)]
      exact e1
end
section
variable {X : Cx} {gens : List Comprehension} {scope : Scope} {pos : Pos} {j : Nat} {D : Addr} {e k v : Expr} {te tk tv : TE}
def tMoreL (te : TE) (D : Addr) : TB := fun σ H Q => te σ H fun y H4 => ∃ acc, H4 D = some (.lst acc) ∧ acc.length < sizeLine ∧ Q (upd H4 D (.lst (acc ++ [y])))
theorem more_l (hn : gens[j + 1]? = none) (he : PE X e te) : PBd X (.lst e) gens scope pos j D (tMoreL te D) [] := by
  refine ⟨fun pins s σ H Q NE I h hx => ?_⟩
  unfold BodyOk
  rw [hn]
  refine wpAny_bind (wpAny_mono (he.run pins s σ H _ I h) (fun u s4 ⟨y, H4, I4, r4, acc, hD, hz, q⟩ => ?_) hx)
  exact wpAny_bind (wpAny_mono (app_ok I4 hD hz r4 (Q := fun _ s' => ∃ H', Inv X pins σ H' s' ∧ Q H') fun s5 I5 => ⟨_, I5, q⟩) (fun _ s5 z => wpAny_pure z) hx)
end
end EV
namespace EV
open PySem PySem.Spec PyProof.Rows L2
def CK.new (c : CK) : Sem Value := match c with
  | .lst _ => newList []
  | .set _ => newSet (.type "set")
  | .dct _ _ => newDict
def CK.ho (c : CK) (w : World) (D : Addr) : HO := match c with
  | .lst _ => .lst []
  | .set _ => snO w D []
  | .dct _ _ => .dK []
section
variable {X : Cx} {pins : List (Addr × Obj)} {σ : L2.St} {H : Hp} {s : Shared} {c : CK}
theorem acc_new {E : Value → Shared → Prop} {A : Around} {Q : Value → Shared → Prop} (I : Inv X pins σ H s)
    (q : ∀ s3, (∀ b o, s.heap.get? b = some o → s3.heap.get? b = some o) → Inv X pins σ (upd H s.heap.objs.size (c.ho X.w s.heap.objs.size)) s3 → Q (.ref s.heap.objs.size) s3) : wpAny (model X.prog X.w) A c.new Q E s := by
  cases c with
  | lst e =>
    refine wpAny_newList (q { s with heap := _ } (fun b o e => Heap.get?_push_of_some _ e) ?_) (by decide)
    exact I.laid (t' := s.toks) (fun b o e => Heap.get?_push_of_some _ e) (Nat.le_refl _) ⟨Nat.zero_le _, [], 0, .nil, Heap.get?_push_size _ rfl⟩
  | set e =>
    refine wpAny_newSet_raw fun led hl => ?_
    subst hl
    exact q { s with heap := _ } (fun b o e => Heap.get?_push_of_some _ e) (I.laid (t' := s.toks) (fun b o e => Heap.get?_push_of_some _ e) (Nat.le_refl _) (sn_ok (.fresh (Heap.get?_push_size _ rfl))))
  | dct k v =>
    unfold CK.new newDict
    refine wpAny_newObj_type ?_ ?_
    · exact q { s with heap := _ } (fun b o e => Heap.get?_push_of_some _ e) (I.laid (t' := s.toks) (fun b o e => Heap.get?_push_of_some _ e) (Nat.le_refl _) (dk_empty s.heap I.big))
    · show (0 : Nat) ≤ sizeLine + 1
      exact Nat.zero_le _
def LkB (X : Cx) (s : Shared) (H : Hp) (fp : List Addr) : Prop := (∃ pins σ, Inv X pins σ H s) ∧ ∀ b ∈ fp, b ∈ X.ex ∨ X.s_0.heap.objs.size ≤ b
def InBlk (X : Cx) (scope : Scope) (L : Addr) (W : WX) (F : Cx → Prop) : Prop := ∀ (s : Shared) (H : Hp) (C : Addr) (cl : List (Str × Addr)) (fp : List Addr), Takes (blkX X s H scope (compEnvC scope cl C X.env) fp) W → TakesH (blkX X s H scope (compEnvC scope cl C X.env) fp) L W → StkAt (blkX X s H scope (compEnvC scope cl C X.env) fp) L → LkB X s H fp →
  F (blkX X s H scope (compEnvC scope cl C X.env) fp)
theorem comp_core {tg iter : Expr} {ifs : List Expr} {rest : List Comprehension} {scope : Scope} {own : List (Str × Nat)} {pos pos' : Pos} {wi : TI} {g : TG} {tt : TT} {bt : Addr → TB} {vsI : List Nat} {use : Option (Value → Sem Unit)} {Q : VK} {Qf : Value → Shared → Prop} {L : Addr} {W : WX}
    (hc : X.calm = true) (hN : X.N.Nodup) (I : Inv X pins σ H s) (hi : PI X tg iter wi) (ok : BlkOk X.N X.env.scope scope own) (st : StkAt X L) (th : TakesH X L W) (hs : ∀ x, foldedSetIterable iter X.env x = pure x)
    (h0 : ∀ env, GensOk (⟨tg, iter, ifs, 0⟩ :: rest) env 0) (hg : InBlk X scope L (fun c d _ H => W c d σ H) fun Y => PG Y tg g) (ht : InBlk X scope L (fun c d _ H => W c d σ H) fun Y => PTs Y ifs tt)
    (hb : InBlk X scope L (fun c d _ H => W c d σ H) fun Y => ∀ D, PBd Y c (⟨tg, iter, ifs, 0⟩ :: rest) scope pos 0 D (bt D) vsI) (hsub : ∀ i ∈ vsI, i ∈ own.map (·.2))
    (h : wi σ H fun J H1 => ∀ D, H1 D = none → ∃ Wm : Nat → Nat → Hp → Prop, (∃ m, Wm 0 m (upd H1 D (c.ho X.w D))) ∧ Turns J g tt (bt D) (own.map (·.2)) σ (fun H' => Q (.ref D) H') Wm)
    (hRR : ∀ D (ce : Env) s' m H', Inv X pins σ H' s' → Q (.ref D) H' → s'.heap.Ns ce.locals m → FpOk X pins H' ce.locals → compEnds (model X.prog X.w) X.A X.xe use Qf (.ref D) ce (.ok .next) s') :
    wpAny (model X.prog X.w) X.A (comprehension (c.ex (⟨tg, iter, ifs, 0⟩ :: rest) scope pos) scope X.env pos' c.new false (eval iter X.env) use) Qf X.xe s := by
  have hfree : ∀ y ∈ scope.names, y.2 = .free → ∃ c, X.env.cells.lookup y.1 = some c := fun y hy e => (ok.free y hy e).elim (fun k => I.ok.has _ (.inl k)) fun k => I.ok.has _ (.inr k)
  refine comprehension_at (g := ⟨tg, iter, ifs, 0⟩) (gs := rest) (use := use) (by cases c <;> rfl) hs (closure_ok hfree) ok.kind (fun y hy e => by rw [ok.uniq y hy, e]) (thn (hi.run pins s σ H _ I h) fun xv s1 hx => thn hx fun itv s2 h2 => ?_)
  obtain ⟨it, fp, tn, J, H2, rfl, I2, T, st2, f2, q⟩ := h2
  refine acc_new I2 fun s3 k3 I3 => newEnv_comp ?_
  generalize hD : s2.heap.objs.size = D at I3 ⊢
  have hDn : H2 D = none := I2.hok.fresh (Nat.le_of_eq hD)
  obtain ⟨Wm, ⟨m0, w0⟩, turn⟩ := q D hDn
  have f3 : ∀ b ∈ fp, FpOk X pins (upd H2 D (c.ho X.w D)) b ∧ b < s3.heap.objs.size := fun b hb => by
    obtain ⟨o, e, _⟩ := T.obj _ _ st2 b hb
    have lt := Heap.lt_size e
    refine ⟨⟨?_, (f2 b hb).2⟩, Heap.lt_size (k3 b o e)⟩
    rw [upd_ne (by rw [← hD]; exact Nat.ne_of_lt lt)]
    exact (f2 b hb).1
  have st3 : tn 0 s3.heap := T.keep _ _ _ st2 fun b _ o e => k3 b o e
  have I4 := block_start I3 ok hN f3
  show codeAny _ _ (.compStart (c.ex (⟨tg, iter, ifs, 0⟩ :: rest) scope pos) 0 (.ref it) (.ref D) (compEnvC scope (cellsFrom (s3.heap.objs.size + 1) scope.names (cloFrom X.env.cells scope.names [])) s3.heap.objs.size X.env))
    (compEnds (model X.prog X.w) X.A X.xe use Qf (.ref D) (compEnvC scope (cellsFrom (s3.heap.objs.size + 1) scope.names (cloFrom X.env.cells scope.names [])) s3.heap.objs.size X.env)) { s3 with heap := pushCells (s3.heap.push { cls := .type "dict", data := .dict #[] }) scope.names }
  have tks := blk_takes (scope := scope) (ce := compEnvC scope (cellsFrom (s3.heap.objs.size + 1) scope.names (cloFrom X.env.cells scope.names [])) s3.heap.objs.size X.env) st th I3 f3 rfl rfl
  have st' : StkAt (blkX X s3 (upd H2 D (c.ho X.w D)) scope (compEnvC scope (cellsFrom (s3.heap.objs.size + 1) scope.names (cloFrom X.env.cells scope.names [])) s3.heap.objs.size X.env) fp) L := st
  have lk : LkB X s3 (upd H2 D (c.ho X.w D)) fp := ⟨⟨_, _, I3⟩, fun b hb => (f3 b hb).1.2.2.2.1⟩
  have pg := hg s3 (upd H2 D (c.ho X.w D)) s3.heap.objs.size _ fp tks.1 tks.2 st' lk
  have pt := ht s3 (upd H2 D (c.ho X.w D)) s3.heap.objs.size _ fp tks.1 tks.2 st' lk
  have pb := hb s3 (upd H2 D (c.ho X.w D)) s3.heap.objs.size _ fp tks.1 tks.2 st' lk D
  generalize hce : compEnvC scope (cellsFrom (s3.heap.objs.size + 1) scope.names (cloFrom X.env.cells scope.names [])) s3.heap.objs.size X.env = ce at I4 pg pt pb ⊢
  have cL : ce.locals = s3.heap.objs.size := by subst hce; rfl
  generalize hH3 : upd H2 D (c.ho X.w D) = H3 at I3 I4 pg pt pb w0 f3
  generalize hs4 : ({ s3 with heap := pushCells (s3.heap.push { cls := .type "dict", data := .dict #[] }) scope.names } : Shared) = s4 at I4 ⊢
  have st4 : tn 0 s4.heap := T.keep _ _ _ st3 fun b _ o e => by rw [← hs4]; exact pushCells_keeps _ _ _ _ (Heap.get?_push_of_some _ e)
  have I5 : Inv (blkX X s3 H3 scope ce fp) [] (L2.wipe σ (own.map (·.2))) H3 s4 := EV.Inv.out I4
  have sta : ∀ H' : Hp, (∀ b ∈ fp, H' b = none) → ∀ b ∈ fp, FpOk (blkX X s3 H3 scope ce fp) [] H' b := fun H' n b hb =>
    ⟨n b hb, (I5.ok.exf b hb).1, I5.ok.exfs b hb, .inl hb, fun x c e => (I5.ok.exf b hb).2 x c e, fun p hp => absurd (show p ∈ ([] : List (Addr × Obj)) ++ [] from hp) (by simp)⟩
  have loop : codeAny (model X.prog X.w) X.A (.compLoop (c.ex (⟨tg, iter, ifs, 0⟩ :: rest) scope pos) 0 (.ref it) (.ref D) ce) (compEnds (model X.prog X.w) X.A X.xe use Qf (.ref D) ce) s4 := by
    refine loop_run (X := blkX X s3 H3 scope ce fp) (R := compEnds (model X.prog X.w) X.A X.xe use Qf (.ref D) ce) hc rfl (h0 ce) pg pt pb hsub T sta turn (fun s' H' I' q => ?_) (fun e s' x => ?_) I5 st4 (fun b hb => (f3 b hb).1.1) w0
    · have I7 : Inv X pins σ H' s' := I3.call' (ch := fp) I'.os I'.base I'.hok I'.bare fun b hb => ⟨(f3 b hb).1.2.2.2.1, (f3 b hb).1.2.1, (f3 b hb).1.2.2.2.2.1, (f3 b hb).1.2.2.2.2.2⟩
      obtain ⟨m, hn, _⟩ := I'.loc
      have nC : H' ce.locals = none := I'.free
      exact hRR D ce s' m H' I7 q hn (I3.fpOk (Nat.le_of_eq cL.symm) nC)
    · have e1 : (fun e s' => compEnds (model X.prog X.w) X.A X.xe use Qf (.ref D) ce (.error e) s') = CompFails (model X.prog X.w) X.A X.xe ce := by
        cases use <;> rfl
      show notedBy _ _ _ (fun e s' => compEnds (model X.prog X.w) X.A X.xe use Qf (.ref D) ce (.error e) s') e s'
      rw [e1]
      exact x
  exact start_at rfl loop (T.self X.A 0 _ _ _ st4 loop)
end
def tComp (c : CK) (w : World) (wi : TI) (g : TG) (tt : TT) (bt : Addr → TB) (vs : List Nat) : TE := fun σ H Q => wi σ H fun J H1 => ∀ D, H1 D = none → ∃ Wm : Nat → Nat → Hp → Prop, (∃ m, Wm 0 m (upd H1 D (c.ho w D))) ∧ Turns J g tt (bt D) vs σ (fun H' => Q (.ref D) H') Wm
end EV
namespace EV
open PySem PySem.Spec PyProof.Rows L2
abbrev FB := Nat → Rho → Hpe → Res Unit
def loopC (g : FG) (t : FT) (body : Rho → Hpe → Res Unit) (src : Src) (ρ : Rho) : Nat → Nat → Hpe → Res Unit
  | 0, _, _ => .no
  | k + 1, i, h => match src h i with
    | none => .no
    | some none => .ok () h
    | some (some w) => match g w ρ h with
      | .nx ρ' h1 => (t ρ' h1).bind fun b h2 => bif b then (body ρ' h2).bind fun _ h3 => loopC g t body src ρ k (i + 1) h3 else loopC g t body src ρ k (i + 1) h2
      | _ => .no
def toU {α : Type} (r : Res α) : Res Unit := r.bind fun _ h => .ok () h
def moreL (fe : FE) : FB := fun n ρ h => (fe ρ h).bind fun y h1 => toU (mApp (.ref n) [y] h1)
def eComp (acc : Ob) (fi : FI) (g : FG) (t : FT) (body : FB) (vs : List Nat) : FE := fun ρ h => (fi ρ h).bind fun src h1 => (h1.al acc).bind fun d h2 => match d with
  | .ref n => (loopC g t (body n) src (wipeR ρ vs) 1000000 0 h2).bind fun _ h3 => .ok (.ref n) h3
  | _ => .no
abbrev RU : (Nat → Addr) → Nat → Hp → Unit → Unit → Prop := fun _ _ _ _ _ => True
def tB (G : GC) (cf : CF) (cl : Cls) (Wk : XK) (D : Addr) (body : FB) : TB := fun σ H Q => ∃ n m h ρ, SS G cf m h ρ σ H ∧ n < h.nx ∧ m n = D ∧ Out G cl RU Wk m h H (body n ρ h) fun _ H' => Q H'
section
variable {G : GC} {cf : CF} {cl : Cls} {Wk : XK} {m m1 : Nat → Addr} {h h1 : Hpe} {H H1 : Hp} {ρ : Rho} {σ : L2.St} {n : Nat} {D : Addr}
theorem ItS.mv {src : Src} {J : It} (i : ItS G m h.nx H src J) (rh : RH G m h H) (mv : Mv m h.nx H m1 h1.nx H1) : ItS G m1 h1.nx H1 src J := fun m' h' H' k r o l t kf =>
  i m' h' H' k r (fun j hj => (o j (Nat.lt_of_lt_of_le hj mv.le)).trans (mv.old j hj)) (Nat.le_trans mv.le l) (TupK.trans (mv.tupk rh) t) fun j hj ob u e => by
    have z := kf j (Nat.lt_of_lt_of_le hj mv.le) ob u (by rw [mv.old j hj]; exact mv.kf j hj ob u e)
    rwa [mv.old j hj] at z
abbrev Bk (G : GC) (cf : CF) (cl : Cls) (Wk : XK) : Bx := ⟨G, cl, fun c d _ H => Wk c d H, cf⟩
theorem turns_ok {J : It} {src : Src} {g : FG} {ft : FT} {body : FB} {us vs : List Nat} {K : Nat} {Q : Hp → Prop} (hvs : ∀ i ∈ us, i ∈ vs) (s1 : SS G cf m1 h1 ρ σ H1) (hn : n < h1.nx) (hD : m1 n = D) (its : ItS G m1 h1.nx H1 src J)
    (o : Out G cl RU Wk m1 h1 H1 (loopC g ft (body n) src (wipeR ρ vs) K 0 h1) fun _ H' => Q H') :
    ∃ W : Nat → Nat → Hp → Prop, (∃ k, W 0 k H1) ∧ Turns J (tG (Bk G cf cl Wk) g us) (tT G cf cl (Bk G cf cl Wk).W ft) (tB G cf cl Wk D body) vs σ Q W := by
  refine ⟨fun i k H' => ∃ m' h', RH G m' h' H' ∧ Mv m1 h1.nx H1 m' h'.nx H' ∧ Out G cl RU Wk m' h' H' (loopC g ft (body n) src (wipeR ρ vs) k i h') fun _ H' => Q H', ⟨K, m1, h1, s1.rh, Mv.refl, o⟩, ?_⟩
  rintro i k H' ⟨m2, h2, r2, v2, o2⟩
  cases k with
  | zero => exact o2.elim
  | succ k =>
    obtain ⟨i1, i2⟩ := its m2 h2 H' i r2 v2.old v2.le (v2.tupk s1.rh) v2.kf
    simp only [loopC] at o2
    cases c : src h2 i with
    | none => rw [c] at o2; exact o2.elim
    | some c' =>
      rw [c] at o2
      cases c' with
      | none =>
        have o2 : Out G cl RU Wk m2 h2 H' (.ok () h2) fun _ H' => Q H' := o2
        exact .inl ⟨i1 c, o2 m2 H' () r2 Mv.refl trivial⟩
      | some w =>
        obtain ⟨go, yl⟩ := i2 w c
        refine .inr ⟨go, fun H3 => ∃ m' h', RH G m' h' H3 ∧ Mv m1 h1.nx H1 m' h'.nx H3 ∧ Out G cl RU Wk m' h' H3 (loopC g ft (body n) src (wipeR ρ vs) k (i + 1) h') fun _ H' => Q H', fun H3 z => ⟨k, Nat.lt_succ_self k, z⟩, fun x H3 y => ?_⟩
        obtain ⟨r3, v3, q3⟩ := yl x H3 y
        have t3 : Mv m1 h1.nx H1 m2 h2.nx H3 := v2.trans (r2.mv_ne v2) v3
        have s3 : SS G cf m2 h2 (wipeR ρ vs) (L2.wipe σ vs) H3 := ((s1.mv r2 v2).mv r3 v3).wipe vs
        refine ⟨m2, h2, wipeR ρ vs, w, s3, q3, ?_⟩
        cases cg : g w (wipeR ρ vs) h2 with
        | nx ρ4 h4 =>
          simp only [cg] at o2
          intro m4 H4 σ4 s4 v4 oth
          have t4 : Mv m1 h1.nx H1 m4 h4.nx H4 := t3.trans (r3.mv_ne t3) v4
          have o4 := Out.shift r2 s4.rh (v3.trans (r3.mv_ne v3) v4) o2
          refine ⟨by rw [(oth.sub hvs).wipe, DL.wipe_wipe], m4, h4, ρ4, s4, (Out.bind s4.rh o4).mono fun b H5 ⟨b', m5, h5, r5, v5, eb, o5⟩ => ?_⟩
          obtain rfl : b' = b := eb
          have t5 : Mv m1 h1.nx H1 m5 h5.nx H5 := t4.trans (s4.rh.mv_ne t4) v5
          cases b' with
          | false => rw [if_neg Bool.false_ne_true]; exact ⟨m5, h5, r5, t5, o5⟩
          | true =>
            rw [if_pos rfl]
            have hn5 : n < h5.nx := Nat.lt_of_lt_of_le hn t5.le
            refine ⟨n, m5, h5, ρ4, s4.mv r5 v5, hn5, (t5.old n hn).trans hD, (Out.bind r5 o5).mono fun _ H6 ⟨_, m6, h6, r6, v6, _, o6⟩ => ?_⟩
            exact ⟨m6, h6, r6, t5.trans (r5.mv_ne t5) v6, o6⟩
        | ex _ _ _ => simp only [cg] at o2; exact o2.elim
        | no => simp only [cg] at o2; exact o2.elim
        | rt _ _ => simp only [cg] at o2; exact o2.elim
        | bk _ _ => simp only [cg] at o2; exact o2.elim
        | ct _ _ => simp only [cg] at o2; exact o2.elim
theorem toU_ok {r : Res W} {Q : Hp → Prop} (rh : RH G m h H) (o : Out G cl RU Wk m h H (toU r) fun _ H' => Q H') : Out G cl (RW G) Wk m h H r fun _ H' => Q H' := (Out.bind rh o).mono fun _ H1 ⟨_, m1, h1, r1, _, _, o1⟩ => o1 m1 H1 () r1 Mv.refl trivial
theorem moreL_ok {fe : FE} {Q : Hp → Prop} (i0 : tB G cf cl Wk D (moreL fe) σ H Q) : tMoreL (tE G cf cl (Bk G cf cl Wk).W fe) D σ H Q := by
  obtain ⟨n, m, h, ρ, s, hn, hD, o⟩ := i0
  refine ⟨m, h, ρ, s, (Out.bind s.rh o).mono fun v H1 ⟨y, m1, h1, r1, v1, q1, o1⟩ => ?_⟩
  have o2 := toU_ok r1 o1
  have hn1 : n < h1.nx := Nat.lt_of_lt_of_le hn v1.le
  have hD1 : m1 n = D := (v1.old n hn).trans hD
  obtain ⟨a, xs, u, e1, e2, e3, e4, q⟩ := ms_app.2 cl Wk m1 h1 H1 (.ref n) [y] (.ref (m1 n)) [v] _ r1 (.ref n hn1) (.cons q1 .nil) o2
  cases e1
  cases e2
  rw [hD1] at e3 q
  exact ⟨xs, e3, e4, q⟩
end
section
variable {Y : Cx} {B : Bx} {Wk : XK} {c : CK} {gens : List Comprehension} {scope : Scope} {pos : Pos} {j : Nat} {tg iter e k v : Expr} {ifs : List Expr} {fi : FI} {g : FG} {ft : FT} {fe fk fv : FE} {body : FB} {us vs vsI : List Nat}
def SBd (Y : Cx) (G : GC) (cf : CF) (cl : Cls) (Wk : XK) (c : CK) (gens : List Comprehension) (scope : Scope) (pos : Pos) (j : Nat) (body : FB) (vs : List Nat) : Prop := ∀ D, PBd Y c gens scope pos j D (tB G cf cl Wk D body) vs
theorem pbd_imp {D : Addr} {bt bt' : TB} (h : PBd Y c gens scope pos j D bt vs) (i : ∀ σ H Q, bt' σ H Q → bt σ H Q) : PBd Y c gens scope pos j D bt' vs := ⟨fun pins s σ H Q NE I q x => h.run pins s σ H Q NE I (i σ H Q q) x⟩
variable {G : GC} {cf : CF} {cl : Cls}
theorem sb_l (hn : gens[j + 1]? = none) (he : SE Y (Bk G cf cl Wk) e fe) : SBd Y G cf cl Wk (.lst e) gens scope pos j (moreL fe) [] := fun D => pbd_imp (more_l hn he) fun _ _ _ z => moreL_ok z
end
section
variable {X : Cx} {B : Bx} {c : CK} {rest : List Comprehension} {scope : Scope} {pos : Pos} {tg iter : Expr} {ifs : List Expr} {fi : FI} {g : FG} {ft : FT} {body : FB} {us vsI : List Nat} {own : List (Str × Nat)} {L : Addr}
def CK.ob (c : CK) : Ob := match c with
  | .lst _ => .lst []
  | .set _ => .st []
  | .dct _ _ => .dk []
theorem CK.ro (c : CK) {G : GC} {m : Nat → Addr} {n : Nat} {H : Hp} (p : Addr) : RO G m n H p c.ob (c.ho G.wo p) := by
  cases c with
  | lst _ => exact .lst .nil
  | set _ => exact .st rfl (fun _ z => nomatch z) .nil
  | dct _ _ => exact .dk (kus := []) rfl .nil
theorem comp_ok {σ : L2.St} {H : Hp} {Q : VK} (hw : X.w = B.G.wo) (hus : ∀ i ∈ us, i ∈ own.map (·.2)) (i0 : tE B.G B.cf B.cl B.W (eComp c.ob fi g ft body (own.map (·.2))) σ H Q) :
    tComp c X.w (tI B fi) (tG (Bk B.G B.cf B.cl fun c d H' => B.W c d σ H') g us) (tT B.G B.cf B.cl (fun c d _ H' => B.W c d σ H') ft) (fun D => tB B.G B.cf B.cl (fun c d H' => B.W c d σ H') D body) (own.map (·.2)) σ H Q := by
  obtain ⟨m, h, ρ, s, o⟩ := i0
  refine ⟨m, h, ρ, s, (Out.bind s.rh o).mono fun J H1 ⟨src, m1, h1, r1, v1, its, o1⟩ D hD => ?_⟩
  have k1 : Out B.G B.cl (RW B.G) (fun c d H' => B.W c d σ H') m1 h1 H1 (h1.al c.ob) fun d H2 => ∃ dw m2 h2, RH B.G m2 h2 H2 ∧ Mv m1 h1.nx H1 m2 h2.nx H2 ∧ RW B.G m2 h2.nx H2 dw d ∧ Out B.G B.cl (RW B.G) (fun c d H' => B.W c d σ H') m2 h2 H2 (match dw with
      | .ref n => (loopC g ft (body n) src (wipeR ρ (own.map (·.2))) 1000000 0 h2).bind fun _ h3 => .ok (.ref n) h3
      | _ => .no) Q := Out.bind r1 o1
  obtain ⟨dw, m2, h2, r2, v2, q2, o2⟩ := al_okA r1 k1 (fun p => c.ro p) D hD
  rw [hw]
  cases dw with
  | ref n =>
    obtain ⟨eD, hn⟩ := rw_ref q2
    have eD : D = m2 n := V.ref.inj eD
    have o3 : Out B.G B.cl RU (fun c d H' => B.W c d σ H') m2 h2 _ (loopC g ft (body n) src (wipeR ρ (own.map (·.2))) 1000000 0 h2) fun _ H' => Q (.ref D) H' :=
      (Out.bind r2 o2).mono fun _ H3 ⟨_, m3, h3, r3, v3, _, o3⟩ => by
        have z := o3 m3 H3 (.ref (m3 n)) r3 Mv.refl (.ref n (Nat.lt_of_lt_of_le hn v3.le))
        rw [v3.old n hn, ← eD] at z
        exact z
    exact turns_ok hus ((s.mv r1 v1).mv r2 v2) hn eD.symm (its.mv r1 v2) o3
  | _ => exact o2.elim
theorem se_comp (hw : X.w = B.G.wo) (hc : X.calm = true) (hN : X.N.Nodup) (st : StkAt X L) (th : TakesH X L B.W) (hi : SI X B tg iter fi) (ok : BlkOk X.N X.env.scope scope own) (h0 : ∀ env, GensOk (⟨tg, iter, ifs, 0⟩ :: rest) env 0)
    (hg : ∀ Wk : XK, InBlk X scope L (fun c d _ H => Wk c d H) fun Y => SG Y (Bk B.G B.cf B.cl Wk) tg g us) (ht : ∀ Wk : XK, InBlk X scope L (fun c d _ H => Wk c d H) fun Y => STs Y (Bk B.G B.cf B.cl Wk) ifs ft)
    (hb : ∀ Wk : XK, InBlk X scope L (fun c d _ H => Wk c d H) fun Y => SBd Y B.G B.cf B.cl Wk c (⟨tg, iter, ifs, 0⟩ :: rest) scope pos 0 body vsI) (hus : ∀ i ∈ us, i ∈ own.map (·.2)) (hsub : ∀ i ∈ vsI, i ∈ own.map (·.2)) (hs : ∀ x, foldedSetIterable iter X.env x = pure x) :
    SE X B (c.ex (⟨tg, iter, ifs, 0⟩ :: rest) scope pos) (eComp c.ob fi g ft body (own.map (·.2))) := by
  refine ⟨fun pins s σ H Q I i0 => ?_⟩
  have e : eval (c.ex (⟨tg, iter, ifs, 0⟩ :: rest) scope pos) X.env = comprehension (c.ex (⟨tg, iter, ifs, 0⟩ :: rest) scope pos) scope X.env (firstIterPos (⟨tg, iter, ifs, 0⟩ :: rest) pos) c.new false (eval iter X.env) := by cases c <;> rfl
  rw [e]
  refine comp_core hc hN I hi ok st th hs h0 (hg fun c d H' => B.W c d σ H') (ht fun c d H' => B.W c d σ H') (fun s H C cl fp t1 t2 t3 t4 D => hb (fun c d H' => B.W c d σ H') s H C cl fp t1 t2 t3 t4 D) hsub (comp_ok (X := X) hw hus i0) fun D ce s' m H' I' q hn f => ⟨m, hn, fun h'' sb => ?_⟩
  obtain ⟨f0, f1, f2, f3, f4, f5⟩ := f
  exact ⟨.ref D, H', I'.turned (t' := s'.toks) (fun b o hb e => (sb.2 b hb).trans e) f0 f1 f3 f4 f5, rfl, q⟩
end
end EV
namespace EV
open PySem PySem.Spec PyProof.Rows L2
def GO (env : Env) : List Comprehension → Prop
  | [] => True
  | g :: gs => (g.is_async = 0 ∧ ∀ x, foldedSetIterable g.iter env x = pure x) ∧ GO env gs
theorem go_get {env : Env} : ∀ {l : List Comprehension} {j : Nat} {g : Comprehension}, GO env l → l[j]? = some g → g.is_async = 0 ∧ ∀ x, foldedSetIterable g.iter env x = pure x
  | [], _, _, _, e => by simp at e
  | a :: l, 0, g, x, e => by
    have e : some a = some g := e
    cases e
    exact x.1
  | a :: l, j + 1, g, x, e => go_get (l := l) (j := j) x.2 e
theorem go {gens : List Comprehension} {env : Env} {j : Nat} (h : GO env (gens.drop (j + 1))) : GensOk gens env j := fun g e => go_get (j := 0) h (by rw [List.getElem?_drop]; exact e)
section
variable {X : Cx} {B : Bx} {c : CK} {rest : List Comprehension} {scope : Scope} {pos spos py : Pos} {tg iter : Expr} {ifs : List Expr} {fi : FI} {g : FG} {ft : FT} {body : FB} {us vsI : List Nat} {own : List (Str × Nat)} {L : Addr} {i : Nat} {y : Str}
theorem se_compL {e : Expr} (hw : X.w = B.G.wo) (hc : X.calm = true) (hN : X.N.Nodup) (st : StkAt X L) (th : TakesH X L B.W) (hi : SI X B tg iter fi) (ok : BlkOk X.N X.env.scope scope own) (h0 : ∀ env, GO env rest)
    (hg : ∀ Wk : XK, InBlk X scope L (fun c d _ H => Wk c d H) fun Y => SG Y (Bk B.G B.cf B.cl Wk) tg g us) (ht : ∀ Wk : XK, InBlk X scope L (fun c d _ H => Wk c d H) fun Y => STs Y (Bk B.G B.cf B.cl Wk) ifs ft)
    (hb : ∀ Wk : XK, InBlk X scope L (fun c d _ H => Wk c d H) fun Y => SBd Y B.G B.cf B.cl Wk (.lst e) (⟨tg, iter, ifs, 0⟩ :: rest) scope pos 0 body vsI) (hus : ∀ i ∈ us, i ∈ own.map (·.2)) (hsub : ∀ i ∈ vsI, i ∈ own.map (·.2)) (hs : ∀ x, foldedSetIterable iter X.env x = pure x) :
    SE X B (.ListComp e (⟨tg, iter, ifs, 0⟩ :: rest) scope pos) (eComp (.lst []) fi g ft body (own.map (·.2))) := se_comp (c := .lst e) hw hc hN st th hi ok (fun env => go (h0 env)) hg ht hb hus hsub hs
end
end EV
namespace EV
open PySem PySem.Spec PyProof.Rows L2
end EV
namespace EV
open PySem PySem.Spec PyProof.Rows L2
def BindsE (fd : FuncData) (ps : List Str) : Prop := ∀ us : List Value, us.length = ps.length → bindArgs fd ⟨us, []⟩ = pure (ps.zip us)
structure At (K : PySem.W.Frag) (mg : Str → Option Value) (n : Str) (st : Stmt) (ps : List Str) : Prop where
  ex : ∃ f fd, Fun K n n st f fd ∧ mg n = some (.ref f) ∧ BindsE fd ps
structure AtC (K : PySem.W.Frag) (mg : Str → Option Value) (n : Str) (st : Stmt) (ps : List Str) (c Pt : Addr) : Prop where
  ex : ∃ f fd, FunC K n n st f fd c ∧ PySem.W.keepIn K (.ref f) = true ∧ mg n = some (.ref f) ∧ BindsE fd ps
  tab : PySem.W.tabIn K n = some (c, Pt)
  no : K.lookup Pt = none
section
variable {P : Program} {w : World} {K : PySem.W.Frag} {mg : Str → Option Value} {base h : Heap} {G : GC} {cl : Cls} {n : Str} {st : Stmt} {ps ks : List Str} {k n0 : Nat} {π : List Nat} {g : List W → Hpe → Res W} {c Pt : Addr}
theorem at_mk {f : Addr} {oc kV doc pm cdv ct : Value} {od an : Option Addr} {osl : Array (Option Value)} (X : K.In h) (N : h.Ns mainGlobals mg) (a : PySem.W.nsIn K mainGlobals n = some (some (.ref f)))
    (l : K.lookup f = some ⟨oc, od, .func (PySem.W.fnOf n n (defArgs st) (defBody st) (defScope st) .none kV doc pm an cdv ct), osl⟩) (hc : PySem.W.codeIn K cdv n = true) (kp : PySem.W.keepIn K (.ref f) = true)
    (hb : ∀ (kV doc pm : Value) (an : Option Addr) (cdv ct : Value) (us : List Value), us.length = ps.length → bindArgs (PySem.W.fnOf n n (defArgs st) (defBody st) (defScope st) .none kV doc pm an cdv ct) ⟨us, []⟩ = pure (ps.zip us)) : At K mg n st ps :=
  ⟨f, _, fun_mk l hc kp, PySem.W.mg_of X N a, fun us hl => hb kV doc pm an cdv ct us hl⟩
theorem atC_mk {f : Addr} {oc kV doc pm ct oc2 : Value} {od an od2 : Option Addr} {osl osl2 : Array (Option Value)} {vs : Array Value} (X : K.In h) (N : h.Ns mainGlobals mg) (a : PySem.W.nsIn K mainGlobals n = some (some (.ref f)))
    (l : K.lookup f = some ⟨oc, od, .func (PySem.W.fnOf n n (defArgs st) (defBody st) (defScope st) .none kV doc pm an (.ref c) ct), osl⟩) (hc : PySem.W.codeIn K (.ref c) n = true) (kp : PySem.W.keepIn K (.ref f) = true)
    (l2 : K.lookup c = some ⟨oc2, od2, .fields vs, osl2⟩) (e2 : vs[11]? = some (.ref Pt)) (tab : PySem.W.tabIn K n = some (c, Pt)) (no : (K.lookup Pt).isNone = true)
    (hb : ∀ (kV doc pm : Value) (an : Option Addr) (cdv ct : Value) (us : List Value), us.length = ps.length → bindArgs (PySem.W.fnOf n n (defArgs st) (defBody st) (defScope st) .none kV doc pm an cdv ct) ⟨us, []⟩ = pure (ps.zip us)) : AtC K mg n st ps c Pt :=
  ⟨⟨f, _, ⟨⟨oc, od, kV, doc, pm, an, ct, osl, rfl, l, hc⟩⟩, kp, PySem.W.mg_of X N a, fun us hl => hb kV doc pm an (.ref c) ct us hl⟩, tab, Option.isNone_iff_eq_none.mp no⟩
theorem AtC.at (A : AtC K mg n st ps c Pt) : At K mg n st ps := by
  obtain ⟨f, fd, F, kp, m, b⟩ := A.ex
  obtain ⟨oc, od, kV, doc, pm, an, ct, osl, e, l, hc⟩ := F.ex
  subst e
  exact ⟨f, _, fun_mk l hc kp, m, b⟩
theorem no_ok {f : Addr} {fd : FuncData} : FnE P w K mg base k f fd ps G cl fun _ _ => .no :=
  ⟨fun A outer s H args us vs Q E _ _ _ _ ⟨m, h, ws, _, _, _, o⟩ => o.elim⟩
theorem At.dfe (A : At K mg n st ps) (ok : ∀ f fd, Fun K n n st f fd → FnE P w K mg base k f fd ps G cl g) : DfE P w K mg base G cl n ps k g := by
  obtain ⟨f, fd, F, m, b⟩ := A.ex
  exact ⟨f, fd, ok f fd F, m, F.kp, .all b⟩
theorem AtC.dfe (A : AtC K mg n st ps c Pt) (ok : ∀ f fd, FunC K n n st f fd c → FnE P w K mg base k f fd ps G cl g) : DfE P w K mg base G cl n ps k g := by
  obtain ⟨f, fd, F, kp, m, b⟩ := A.ex
  exact ⟨f, fd, ok f fd F, m, kp, .all b⟩
end
end EV
namespace EV
open PySem PySem.Spec PyProof.Rows L2
def clOf (Cs : List Addr) : Cls := fun k => (Cs[k]?).map Value.ref
theorem clOf_at {Cs : List Addr} {k : Nat} {C : Addr} (e : Cs[k]? = some C) : clOf Cs k = some (.ref C) := by show (Cs[k]?).map Value.ref = _; rw [e]; rfl
theorem clOf_of {Cs : List Addr} {k : Nat} {c : Value} (e : clOf Cs k = some c) : ∃ D, c = .ref D ∧ Cs[k]? = some D := by
  have e : (Cs[k]?).map Value.ref = some c := e
  cases q : Cs[k]? with
  | none => rw [q] at e; cases e
  | some D => rw [q] at e; cases e; exact ⟨D, rfl, rfl⟩
def AllX (K : PySem.W.Frag) (C : Addr) (k : Nat) : List Addr → Nat → Prop
  | [], _ => True
  | D :: Ds, j => PySem.W.subIn K (.ref D) (.ref C) = some (Nat.beq j k) ∧ AllX K C k Ds (j + 1)
theorem allX_at {K : PySem.W.Frag} {C D : Addr} {k : Nat} : ∀ {Ds : List Addr} {j i : Nat}, AllX K C k Ds j → Ds[i]? = some D → PySem.W.subIn K (.ref D) (.ref C) = some (Nat.beq (j + i) k)
  | [], _, _, _, e => by simp at e
  | a :: Ds, j, 0, x, e => by
    have e : some a = some D := e
    cases e
    exact x.1
  | a :: Ds, j, i + 1, x, e => by
    have z := allX_at (Ds := Ds) (j := j + 1) (i := i) x.2 e
    rwa [show j + 1 + i = j + (i + 1) by omega] at z
section
variable {P : Program} {w : World} {K : PySem.W.Frag} {mg : Str → Option Value} {base h : Heap} {Cs : List Addr} {C : Addr} {k : Nat} {x f : Str}
theorem exE_mk {Bn newId initId : String} {bmB : List Value} (X : K.In h) (N : h.Ns mainGlobals mg) (hC : Cs[k]? = some C) (F : ExcBaseFacts Bn newId initId bmB) (a : PySem.W.nsIn K mainGlobals x = some (some (.ref C))) (xc : PySem.W.excIn K C bmB newId = true)
    (kp : PySem.W.keepIn K (.ref C) = true) (sb : PySem.W.subIn K (.ref C) (.type "BaseException") = some true) (ty : PySem.W.typeIn K (.ref C) = some (.type "type")) : ExE K mg (clOf Cs) x k :=
  ⟨⟨C, bmB, Bn, newId, initId, F, xc, PySem.W.mg_of X N a, clOf_at hC, kp, sb, ty⟩⟩
theorem exN_mk (X : K.In h) (N : h.Ns mainGlobals mg) (hC : Cs[k]? = some C) (a : PySem.W.nsIn K mainGlobals x = some (some (.ref C))) (sb : PySem.W.subIn K (.ref C) (.type "BaseException") = some true) (hd : PySem.W.hasDictIn K C = true) (ty : PySem.W.typeIn K (.ref C) = some (.type "type")) (all : AllX K C k Cs 0) : ExN K mg (clOf Cs) x k :=
  ⟨⟨_, PySem.W.mg_of X N a, clOf_at hC⟩, fun j c c' e1 e2 => by
    obtain ⟨D, rfl, hD⟩ := clOf_of e1
    have e3 : c' = .ref C := Option.some.inj (e2.symm.trans (clOf_at hC))
    subst e3
    have z := allX_at all hD
    rw [Nat.zero_add] at z
    exact PySem.W.exm_ref sb hd ty z⟩
end
mutual
inductive KonV (K : PySem.W.Frag) : W → Value → Prop
  | non : KonV K .non .none
  | bl (b : Bool) : KonV K (.bl b) (.bool b)
  | int (i : Int) (t : Tok) : KonV K (.int i) (.int i t)
  | str (s : Str) (t : Tok) : KonV K (.str s) (.str s t)
  | tup {a : Addr} {o : Obj} {its : Array Value} {n : Nat} {ws : List W} : K.lookup a = some o → o.cls = .type "tuple" → o.data = .seq its n → its.size ≤ sizeLine → KonVs K ws its.toList → KonV K (.tup ws) (.ref a)
inductive KonVs (K : PySem.W.Frag) : List W → List Value → Prop
  | nil : KonVs K [] []
  | cons {w : W} {u : Value} {ws : List W} {us : List Value} : KonV K w u → KonVs K ws us → KonVs K (w :: ws) (u :: us)
end
def noLst (K : PySem.W.Frag) : Bool := K.all fun p => !(p.2.cls == .type "list")
theorem noLst_at {a : Addr} {o : Obj} : ∀ {K : PySem.W.Frag}, noLst K = true → K.lookup a = some o → o.cls ≠ .type "list"
  | [], _, e => by cases e
  | (b, u) :: K, h, e => fun z => by
    unfold noLst at h
    rw [List.all_cons, Bool.and_eq_true] at h
    rw [List.lookup_cons] at e
    cases q : a == b with
    | true =>
      rw [q] at e
      have e : some u = some o := e
      cases e
      rw [z] at h
      exact absurd h.1 (by decide)
    | false =>
      rw [q] at e
      exact noLst_at (K := K) h.2 e z
theorem ints_rws {G : GC} {m : Nat → Addr} {n : Nat} {H : Hp} : ∀ ns : List Int, RWs G m n H (ns.map W.int) (ns.map V.int)
  | [] => .nil
  | i :: ns => .cons (.int i) (ints_rws ns)
abbrev gcOf (K : PySem.W.Frag) (dfs : Nat → Option Addr) (cs ls : List (Addr × Addr)) (P : Program) (w : World) (nm : Nat → Nat → Str) (tx : Nat → Option CTx) (cc : Nat → Option Addr) : GC := ⟨K, dfs, cs.map (·.2), P, w, ls.map (·.2), nm, tx, cc⟩
def Says (g : List W → Hpe → Res W) : Prop := ∀ ns : List Int, ns.length ≤ 63 → ∀ o : Ob, o = .lst (ns.map W.int) ∨ o = .fz (ns.map W.int) → ∃ h', g [.ref 0] (Hpe.nil.new o) = .ok (.bl true) h'
theorem says_ok {K : PySem.W.Frag} {P : Program} {w : World} {cl : Cls} {dfs : Nat → Option Addr} {H : Hp} {a : Addr} {cs ls : List (Addr × Addr)} {nm : Nat → Nat → Str} {tx : Nat → Option CTx} {cc : Nat → Option Addr} {ns : List Int} {g : List W → Hpe → Res W} (hg : Says g) (nl : noLst K = true) (hT : ∀ p ∈ cs ++ ls, H p.2 = some (.tbl #[])) (hl : ns.length ≤ 63) (hS : SqL K H a (ns.map V.int)) :
    spE (gcOf K dfs cs ls P w nm tx cc) cl 1 g [.ref a] H (fun v _ => v = .bl true) fun _ _ _ => False := by
  obtain ⟨o, ho, eo, hH, ro⟩ : ∃ (o : Ob) (ho : HO), (o = .lst (ns.map W.int) ∨ o = .fz (ns.map W.int)) ∧ H a = some ho ∧ RO (gcOf K dfs cs ls P w nm tx cc) (fun _ => a) 1 H a o ho := by
    rcases hS with (q | ⟨ob, q⟩) | ⟨ob, its, n, l, c, _⟩
    · exact ⟨_, _, .inl rfl, q, .lst (ints_rws ns)⟩
    · exact ⟨_, _, .inr rfl, q, .fz (ints_rws ns)⟩
    · exact absurd c (noLst_at nl l)
  obtain ⟨h', eg⟩ := hg ns hl o eo
  refine ⟨fun _ => a, Hpe.nil.new o, [.ref 0], ⟨show 1 ≤ 1099511627776 from by decide, fun i j hi hj _ => ?_, fun i hi => ?_, fun q hq => ?_, fun q hq => ?_⟩, .cons (.ref 0 (show 0 < 1 from by decide)) .nil, rfl, ?_⟩
  · have hi : i < 1 := hi
    have hj : j < 1 := hj
    omega
  · have hi : i < 1 := hi
    obtain rfl : i = 0 := by omega
    exact ⟨o, ho, rfl, hH, ro⟩
  · obtain ⟨p, hp, rfl⟩ := List.mem_map.mp hq
    exact ⟨#[], hT p (List.mem_append_left _ hp), trivial⟩
  · obtain ⟨p, hp, rfl⟩ := List.mem_map.mp hq
    refine ⟨#[], hT p (List.mem_append_right _ hp), trivial, fun pos cv hc => ?_⟩
    have z : codeAmong pos [] = some cv := hc
    simp [codeAmong] at z
  · rw [eg]
    intro m' H' v rh mv r
    cases r
    rfl
end EV
namespace EV
open PySem PySem.Spec PyProof.Rows L2
def TabsOf (K : PySem.W.Frag) : List Str → List (Addr × Addr) → Prop
  | [], [] => True
  | x :: xs, p :: ps => (PySem.W.tabIn K x = some p ∧ K.lookup p.2 = none) ∧ TabsOf K xs ps
  | _, _ => False
theorem tabsOf_at {K : PySem.W.Frag} {p : Addr × Addr} : ∀ {xs : List Str} {ps : List (Addr × Addr)}, TabsOf K xs ps → p ∈ ps → ∃ x ∈ xs, PySem.W.tabIn K x = some p ∧ K.lookup p.2 = none
  | [], [], _, h => nomatch h
  | [], _ :: _, t, _ => t.elim
  | _ :: _, [], t, _ => t.elim
  | x :: xs, q :: ps, t, h => by
    rcases List.mem_cons.mp h with e | h
    · subst e
      exact ⟨x, List.mem_cons_self .., t.1⟩
    · obtain ⟨y, hy, z⟩ := tabsOf_at t.2 h
      exact ⟨y, List.mem_cons_of_mem _ hy, z⟩
def LawE (P : Program) (w : World) (K : PySem.W.Frag) (mg : Str → Option Value) (x : Str) (dfs : Nat → Option Addr) (cs ls : List (Addr × Addr)) (nm : Nat → Nat → Str) (tx : Nat → Option CTx) (cc : Nat → Option Addr) (cl : Cls) (g : List W → Hpe → Res W) (fa : Addr) : Prop :=
  ∃ fd, BindsE fd [x] ∧ ∀ base : Heap, K.In base → base.Ns mainGlobals mg → (∀ p ∈ cs ++ ls, GxR.TabB base mg p.1 p.2) → FnE P w K mg base 230 fa fd [x] (gcOf K dfs cs ls P w nm tx cc) cl g
section
variable {P : Program} {w : World} {K : PySem.W.Frag} {mg : Str → Option Value} {n x : Str} {st : Stmt} {dfs : Nat → Option Addr} {cs ls : List (Addr × Addr)} {nm : Nat → Nat → Str} {tx : Nat → Option CTx} {cc : Nat → Option Addr} {cl : Cls} {g : List W → Hpe → Res W} {fa c Pt : Addr}
theorem At.law (A : At K mg n st [x]) (hfa : mg n = some (.ref fa)) (ok : ∀ base : Heap, K.In base → base.Ns mainGlobals mg → (∀ p ∈ cs ++ ls, GxR.TabB base mg p.1 p.2) → ∀ f fd, Fun K n n st f fd → FnE P w K mg base 230 f fd [x] (gcOf K dfs cs ls P w nm tx cc) cl g) :
    LawE P w K mg x dfs cs ls nm tx cc cl g fa := by
  obtain ⟨f, fd, F, m, b⟩ := A.ex
  have e := hfa.symm.trans m
  cases e
  exact ⟨fd, b, fun base kb nb tb => ok base kb nb tb _ fd F⟩
theorem AtC.law (A : AtC K mg n st [x] c Pt) (hfa : mg n = some (.ref fa)) (ok : ∀ base : Heap, K.In base → base.Ns mainGlobals mg → (∀ p ∈ cs ++ ls, GxR.TabB base mg p.1 p.2) → ∀ f fd, FunC K n n st f fd c → FnE P w K mg base 230 f fd [x] (gcOf K dfs cs ls P w nm tx cc) cl g) :
    LawE P w K mg x dfs cs ls nm tx cc cl g fa := by
  obtain ⟨f, fd, F, kp, m, b⟩ := A.ex
  have e := hfa.symm.trans m
  cases e
  exact ⟨fd, b, fun base kb nb tb => ok base kb nb tb _ fd F⟩
end
theorem walk_E {l : PySem.W.OpenLaw} {q : Program} {loose : List Str} {XP : (Str → Option Value) → Heap → Prop} {YP : World → Heap → Prop} {d : DefRec} {K : Params → PySem.W.Frag} {x : Str} {names : List Str} {g : List W → Hpe → Res W}
    (hm : l.most = some 63) (hd0 : d.params.defaults = []) (hYK : ∀ (w : World) (h : Heap), YP w h → (K w.params).In h) (hq : (names.all fun y => ((recsOf q).find? fun e => e.name == y).isSome) = true) (nl : ∀ w : World, noLst (K w.params) = true) (hg : Says g)
    (F : ∀ (w : World) (mg : Str → Option Value) (fa : Addr) (h : Heap), (K w.params).In h → h.Ns mainGlobals mg → mg d.name = some (.ref fa) → ∃ (dfs : Nat → Option Addr) (cs ls : List (Addr × Addr)) (nm : Nat → Nat → Str) (tx : Nat → Option CTx) (cc : Nat → Option Addr) (cl : Cls), TabsOf (K w.params) names (cs ++ ls) ∧ LawE l.prog w (K w.params) mg x dfs cs ls nm tx cc cl g fa) :
    PySem.W.WalkO q loose XP YP l.row.toRowW d [] (fun f vs => PySem.call f vs) := by
  refine Att.attach_callB hm hd0 fun w s0 s1 mg mb fa ob pm cd doc a vs ns Gr Yh hob hfd hcd hmg hls his hln hbt hgn => ?_
  have KH := hYK w _ Yh
  obtain ⟨dfs, cs, ls, nm, tx, cc, cl, tabs, fd, hbind, ok⟩ := F w mg fa _ KH Gr.T.g hmg
  have each : ∀ p ∈ cs ++ ls, (PySem.W.CodeHd s1.heap p.1 p.2 ∧ s1.heap.get? p.2 = some (PySem.W.tabObj #[])) ∧ (K w.params).lookup p.2 = none := fun p hp => by
    obtain ⟨y, hy, t1, t2⟩ := tabsOf_at tabs hp
    obtain ⟨r, hr⟩ := Option.isSome_iff_exists.mp (List.all_eq_true.mp hq y hy)
    exact ⟨PySem.W.tab_of Gr.T KH hr t1, t2⟩
  refine LamX.law_callTs (cs := cs ++ ls) (x := x) (k := 230) (CX := L2.CX l.prog w) KH Gr.T.g Gr.T.b Gr.T.builtins Gr.T.nolimit hgn (fun p hp => (each p hp).1.2) (fun p hp => (each p hp).2) (fun p hp => (each p hp).1.1) Gr.T.bmain hls his
    (Nat.le_trans hln (by decide)) ⟨by decide, by decide, by decide⟩ (fun base kb nb tb => (ok base kb nb fun p hp => ⟨(tb p hp).code, (tb p hp).bm, (tb p hp).gP⟩).ok) (fun s u => .of_eq (hbind [u] rfl)) (fun H hH hS => says_ok hg (nl w) hH hln hS) fun H e s' hx => ?_
  obtain ⟨_, _, _, _, _, _, _, _, _, _, _, _, z⟩ := hx
  exact z
end EV
namespace EV
open PySem PySem.Spec PyProof.Rows L2
def AtCs (K : PySem.W.Frag) : List Str → List Addr → Prop
  | x :: xs, C :: Cs => PySem.W.nsIn K mainGlobals x = some (some (.ref C)) ∧ AtCs K xs Cs
  | [], [] => True
  | _, _ => False
end EV
namespace EV
end EV
namespace EV
open PySem PySem.Spec PyProof.Rows L2
section
variable {X : Cx} {B : Bx} {G : GC} {pins : List (Addr × Obj)} {σ : L2.St} {H : Hp} {s : Shared} {m : Nat → Addr} {h : Hpe}
end
structure ClE (P : Program) (w : World) (K : PySem.W.Frag) (mg : Str → Option Value) (base : Heap) (G : GC) (cl : Cls) (lv : Nat) (t : CTx) (g : List W → Hpe → Res W) : Prop where
  run : ∀ (A : Around) (outer : List PySem.Env) (s : Shared) (H : Hp) (f : Addr) (us : List Value) (vs vs' : List V) (Q : VK) (E : XK), Room lv A → Env0 P w K mg base A outer s H → ClAt G t s H (frs outer) f vs' → Vals vs us →
    (∃ m h ws caps, RH G m h H ∧ RCs G (CfAt G s H (frs outer)) m h.nx H ws vs ∧ RCs G (CfAt G s H (frs outer)) m h.nx H caps vs' ∧ ws.length = t.ps.length ∧ Out G cl (RW G) (fun c d H' => E c d H') m h H (g (ws ++ caps) h) Q) →
    codeAny (model P w) A (.call (.ref f) ⟨us, []⟩) (CR (L2.CX P w) outer P w H s Q E) s
section
variable {P : Program} {w : World} {K : PySem.W.Frag} {mg : Str → Option Value} {base : Heap} {G : GC} {cl : Cls} {k : Nat} {t : CTx} {N : List Str} {fe : FE} {fs : FS} {body : Expr} {sts : List Stmt}
end
end EV
namespace EV
open PySem PySem.Spec PyProof.Rows L2
def arG (n : Nat) (g : List W → Hpe → Res W) (ws : List W) (h : Hpe) : Res W := bif Nat.beq ws.length n then g ws h else .no
structure DvE (P : Program) (w : World) (K : PySem.W.Frag) (mg : Str → Option Value) (base : Heap) (G : GC) (cl : Cls) (lv : Nat) (f : Addr) (g : List W → Hpe → Res W) : Prop where
  ex : ∃ fd ps g0, FnE P w K mg base lv f fd ps G cl g0 ∧ PySem.W.keepIn K (.ref f) = true ∧ Binds K fd ps [] ∧ ∀ ws h, g ws h = arG ps.length g0 ws h
structure Cal (P : Program) (w : World) (K : PySem.W.Frag) (mg : Str → Option Value) (base : Heap) (G : GC) (cl : Cls) (lv : Nat) (T : Nat → List W → Hpe → Res W) : Prop where
  df : ∀ k f, G.dfs k = some f → DvE P w K mg base G cl lv f (T k)
  clo : ∀ k t, G.tx k = some t → ∃ g, ClE P w K mg base G cl lv t g ∧ ∀ ws h, T k ws h = arG (t.ps.length + t.fr.length) g ws h
section
variable {X : Cx} {B : Bx} {k lv i : Nat} {T : Nat → List W → Hpe → Res W} {x : Str} {p pos : Pos} {e : Expr} {es : List Expr} {fs : FA}
end
def Kt (G : GC) (H H' : Hp) : Prop := ∀ P ∈ G.ltabs, ∀ (pos : Pos) (ps : Array Value) (v : Value), H P = some (.tbl ps) → codeAmong pos ps.toList = some v → ∃ ps', H' P = some (.tbl ps') ∧ codeAmong pos ps'.toList = some v
theorem Kt.refl {G : GC} {H : Hp} : Kt G H H := fun _ _ _ ps _ e c => ⟨ps, e, c⟩
theorem Kt.trans {G : GC} {H H1 H2 : Hp} (a : Kt G H H1) (b : Kt G H1 H2) : Kt G H H2 := fun P hP pos ps v e c => by
  obtain ⟨ps', e', c'⟩ := a P hP pos ps v e c
  exact b P hP pos ps' v e' c'
section
variable {X : Cx} {G : GC} {pins : List (Addr × Obj)} {σ : L2.St} {H : Hp} {s : Shared} {m : Nat → Addr} {h : Hpe}
end
end EV
namespace EV
open PySem PySem.Spec PyProof.Rows L2
structure CapsB (X : Cx) (t : CTx) (js : List Nat) : Prop where
  free : ∀ y ∈ t.scope.names, y.2 = .free → X.env.scope.names.lookup y.1 = some .cell ∨ X.env.scope.names.lookup y.1 = some .free
  fr : ∀ y ∈ t.fr, (y, NameKind.free) ∈ t.scope.names
  at_ : js.map (fun j => X.N[j]?) = t.fr.map some
mutual
inductive RM (X : Cx) (B : Bx) (σ : L2.St) (pins : List (Addr × Obj)) (m : Nat → Addr) (n : Nat) (H : Hp) : W → V → Prop
  | rc {w : W} {v : V} : RC B.G B.cf m n H w v → RM X B σ pins m n H w v
  | mk {k : Nat} {f c P : Addr} {caps : List W} {t : CTx} {o : Obj} {fd : FuncData} {pos : Pos} {ps : Array Value} {vs : List V} {js : List Nat} : B.G.tx k = some t → (f, o) ∈ pins → f ∉ frs X.stack → o.data = .func fd → FdOk fd t (cloFrom X.env.cells t.scope.names []) c → P ∈ B.G.ltabs → H P = some (.tbl ps) →
      codeAmong pos ps.toList = some (.ref c) → B.G.nm pos.line pos.col = t.qual → CapsB X t js → vs.map some = js.map (NdefX.slotAt σ) → RCs B.G B.cf m n H caps vs → RM X B σ pins m n H (.clo k caps) (.ref f)
inductive RMs (X : Cx) (B : Bx) (σ : L2.St) (pins : List (Addr × Obj)) (m : Nat → Addr) (n : Nat) (H : Hp) : List W → List V → Prop
  | nil : RMs X B σ pins m n H [] []
  | cons {w : W} {ws : List W} {v : V} {vs : List V} : RM X B σ pins m n H w v → RMs X B σ pins m n H ws vs → RMs X B σ pins m n H (w :: ws) (v :: vs)
end
section
variable {X : Cx} {B : Bx} {σ : L2.St} {pins pins' : List (Addr × Obj)} {m : Nat → Addr} {n : Nat} {H H' : Hp}
theorem RM.mono {w : W} {v : V} (r : RM X B σ pins m n H w v) (t : TupK H H') (kt : Kt B.G H H') (hp : ∀ p ∈ pins, p ∈ pins') : RM X B σ pins' m n H' w v := by
  cases r with
  | rc r => exact .rc (r.mono (fun _ _ => rfl) (Nat.le_refl _) t)
  | mk a b c d e f g i j k l q =>
    obtain ⟨ps', g', i'⟩ := kt _ f _ _ _ g i
    exact .mk a (hp _ b) c d e f g' i' j k l (q.map (fun _ _ => rfl) (Nat.le_refl _) t fun _ _ _ z => z)
theorem RMs.mono : ∀ {ws : List W} {vs : List V}, RMs X B σ pins m n H ws vs → TupK H H' → Kt B.G H H' → (∀ p ∈ pins, p ∈ pins') → RMs X B σ pins' m n H' ws vs
  | _, _, .nil, _, _, _ => .nil
  | _, _, .cons a b, t, kt, hp => .cons (a.mono t kt hp) (b.mono t kt hp)
end
abbrev FL := Rho → Hpe → Option (List W)
structure SLt (X : Cx) (B : Bx) (es : List Expr) (f : FL) : Prop where
  run : ∀ (pos : Pos) (pins : List (Addr × Obj)) (s : Shared) (σ : L2.St) (H : Hp) (m : Nat → Addr) (h : Hpe) (ρ : Rho) (ws : List W) (K : List Value → Shared → Prop), Inv X pins σ H s → SS B.G B.cf m h ρ σ H → f ρ h = some ws →
    (∀ (pins' : List (Addr × Obj)) (H' : Hp) (s' : Shared) (us : List Value) (vs : List V), (∀ p ∈ pins, p ∈ pins') → Inv X pins' σ H' s' → RH B.G m h H' → Mv m h.nx H m h.nx H' → Kt B.G H H' → Vals vs us → RMs X B σ pins' m h.nx H' ws vs → K us s') →
    wpAny (model X.prog X.w) X.A (spliced (backTo pos (starEach es X.env))) K X.xe s
section
variable {X : Cx} {B : Bx} {e : Expr} {es : List Expr} {f : FL} {x : Str} {p lpos pos : Pos} {i k : Nat}
theorem Inv.pinned {pins : List (Addr × Obj)} {σ : L2.St} {H : Hp} {s : Shared} (I : Inv X pins σ H s) {f : Addr} {o : Obj} (e : s.heap.get? f = some o) (n : H f = none) (nl : f ≠ X.env.locals) (nf : f ∉ frs X.stack) (nc : ∀ v, o.data ≠ .cell v) : Inv X (pins ++ [(f, o)]) σ H s := by
  refine I.pins_of fun p hp => ?_
  rcases List.mem_append.mp hp with z | z
  · exact I.pin p (List.mem_append_right _ z)
  · obtain rfl := List.mem_singleton.mp z
    refine ⟨e, n, nl, fun z => nf ?_, nc⟩
    rcases I.ok.stk with q | ⟨q, _⟩
    · rw [q]; exact z
    · rw [q]
      unfold frs
      rw [List.filterMap_cons]
      split
      · exact z
      · exact List.mem_cons_of_mem _ z
end
structure SAC (X : Cx) (B : Bx) (es : List Expr) (f : FA) : Prop where
  run : ∀ (pos : Pos) (pins : List (Addr × Obj)) (s : Shared) (σ : L2.St) (H : Hp) (m : Nat → Addr) (h : Hpe) (ρ : Rho) (K : List Value → Shared → Prop), Inv X pins σ H s → SS B.G B.cf m h ρ σ H →
    (match f ρ h with
      | .ok ws h' => ∀ (pins' : List (Addr × Obj)) (m' : Nat → Addr) (H' : Hp) (s' : Shared) (us : List Value) (vs : List V), (∀ p ∈ pins, p ∈ pins') → Inv X pins' σ H' s' → RH B.G m' h' H' → Mv m h.nx H m' h'.nx H' → Vals vs us → RMs X B σ pins' m' h'.nx H' ws vs → K us s'
      | .ex x h' => ∀ m' H' c d, RH B.G m' h' H' → Mv m h.nx H m' h'.nx H' → ExR B.G B.cl m' h'.nx H' x c d → B.W c d σ H'
      | .no => False) → wpAny (model X.prog X.w) X.A (spliced (backTo pos (starEach es X.env))) K X.xe s
section
variable {X : Cx} {B : Bx} {e : Expr} {es : List Expr} {fe : FE} {fl : FL} {fs : FA} {x : Str} {p pos : Pos} {n k : Nat} {g : List W → Hpe → Res W}
end
end EV
namespace EV
open PySem PySem.Spec PyProof.Rows L2
def assoc {α : Type} : List (Nat × α) → Nat → Option α
  | [], _ => none
  | (j, a) :: r, k => bif Nat.beq k j then some a else assoc r k
def nmOf : List (Pos × Str) → Nat → Nat → Str
  | [], _, _ => ""
  | (p, x) :: r, l, c => bif Nat.beq p.line l && Nat.beq p.col c then x else nmOf r l c
structure GX (G : GC) (ns : List (Pos × Str)) (ts : List (Nat × CTx)) : Prop where
  nm : G.nm = nmOf ns
  tx : G.tx = assoc ts
section
variable {X : Cx} {B : Bx} {es : List Expr} {f : FL} {x : Str} {p pos : Pos} {k : Nat}
end
section
variable {P : Program} {w : World} {K : PySem.W.Frag} {mg : Str → Option Value} {base : Heap} {G : GC} {cl : Cls} {lv : Nat} {t : CTx}
end
end EV
namespace EV
open PySem PySem.Spec PyProof.Rows L2
section
variable {P : Program} {w : World} {K : PySem.W.Frag} {mg : Str → Option Value} {base : Heap} {G : GC} {cl : Cls} {n : Str} {st : Stmt} {ps : List Str} {lv : Nat} {g0 T : List W → Hpe → Res W} {c Pt g : Addr}
end
end EV
namespace EV
open PySem PySem.Spec PyProof.Rows L2
section
variable {X : Cx} {pins : List (Addr × Obj)} {σ : L2.St} {H : Hp} {s : Shared} {a b : Addr} {xs : Dn} {k : NestedKey} {A : Around} {E : Value → Shared → Prop}
end
section
variable {X : Cx} {o e : Expr} {es : List Expr} {to : TE} {t : TA} {apos cpos : Pos} {r : V → List V → Hp → VK → Prop} {id : String} {name : Str}
end
section
variable {G : GC} {cl : Cls} {Wx : Value → Option Addr → Hp → Prop} {m : Nat → Addr} {h : Hpe} {H : Hp} {w : W} {ws : List W} {v : V} {vs : List V} {Q : VK}
end
section
variable {X : Cx} {B : Bx} {e o : Expr} {es : List Expr} {fo : FE} {fs : FA} {apos cpos : Pos}
end
end EV
namespace EV
open PySem PySem.Spec PyProof.Rows L2
section
variable {ns : List Int} {its : Array Value} {i : Nat} {x : Int}
end
section
variable {prog : Program} {w : World} {A : Around} {R : Result → Shared → Prop} {a : Addr} {res : Value}
end
end EV
namespace EV
open PySem PySem.Spec PyProof.Rows L2
section
variable {prog : Program} {w : World} {A : Around} {R : Result → Shared → Prop} {a : Addr} {res : Value}
end
end EV
namespace EV
open PySem PySem.Spec PyProof.Rows L2
section
variable {X : Cx} {pins : List (Addr × Obj)} {σ : L2.St} {H : Hp} {s : Shared} {l : Addr}
end
section
variable {X : Cx} {B : Bx} {e : Expr} {es : List Expr} {fs : FA} {x : Str} {p pos : Pos} {id : String} {r : List V → Hp → VK → Prop} {g : List W → Hpe → Res W}
end
end EV
namespace EV
open PySem PySem.Spec PyProof.Rows L2
section
variable {X : Cx} {B : Bx} {lv i : Nat} {T : Nat → List W → Hpe → Res W} {x : Str} {p pos : Pos} {e func : Expr} {es : List Expr} {ff f : FE} {fs : FA}
end
end EV
namespace EV
open PySem PySem.Spec PyProof.Rows L2 RZ
def ZRec (h : Heap) (z TI TO : Addr) (f0 : Value) (fl : Bool) : Prop := h.get? z = some { cls := .type "zip", dict := none, data := .fields #[f0, .bool fl, .bool false, .ref TI, .ref TO], slots := #[] }
def ZAny (h : Heap) (z TI TO : Addr) : Prop := ∃ f0 fl, (f0 = .none ∨ ∃ T : Addr, f0 = rawInt T) ∧ ZRec h z TI TO f0 fl
section
variable {prog : Program} {w : World} {A : Around} {E : Value → Shared → Prop} {s : Shared} {z TI TO i1 i2 l1 l2 : Addr} {k : Nat} {xs ys : Array Value}
theorem zany_free {Q : Bool → Shared → Prop} (hz : ZAny s.heap z TI TO) (hq : ∀ b h' f0 fl, ZRec h' z TI TO f0 fl → Heap.SameBut z s.heap h' → (f0 = .none ∨ ∃ T : Addr, f0 = rawInt T) → Q b { s with heap := h' }) : wpAny (model prog w) A (Builtin.SmallTypes.ownedTupleIsFree (.ref z)) Q E s := by
  obtain ⟨f0, fl, hf, hz⟩ := hz
  unfold Builtin.SmallTypes.ownedTupleIsFree
  refine wpAny_bind (wpAny_field (s := s) (E := E) hz rfl (x := f0) rfl ?_)
  rcases hf with rfl | ⟨T, rfl⟩
  · exact wpAny_pure (hq true s.heap .none fl hz (.refl _ _) (.inl rfl))
  · show wpAny _ _ (loadIfAlive (Int.toNat (T : Int)) >>= _) _ _ _
    refine wpAny_bind ?_
    cases hT : s.heap.get? (Int.toNat (T : Int)) with
    | none =>
      have go : ∀ {R : Option Obj → Shared → Prop}, R none s → wpAny (model prog w) A (loadIfAlive (Int.toNat (T : Int))) R E s := fun {R} r => by
        have r' : R (s.heap.get? (Int.toNat (T : Int))) s := by rw [hT]; exact r
        exact fun _ _ _ => r'
      refine go ?_
      simp only [Option.isNone_none, if_true]
      exact wpAny_pure (hq true s.heap _ fl hz (.refl _ _) (.inr ⟨T, rfl⟩))
    | some o =>
      refine PySem.W.kdx_alive hT ?_
      simp only [Option.isNone_some, Bool.false_eq_true, if_false]
      refine wpAny_bind (wpAny_field (s := s) hz rfl (x := .bool fl) rfl ?_)
      cases fl with
      | true =>
        rw [if_neg (by decide)]
        exact wpAny_pure (hq false s.heap _ true hz (.refl _ _) (.inr ⟨T, rfl⟩))
      | false =>
        rw [if_pos (by decide)]
        exact wpAny_bind (wpAny_setField_rec hz (by simp) fun h' hz' sb => wpAny_pure (hq false h' _ true hz' sb (.inr ⟨T, rfl⟩)))
theorem zany_item {x y a b : Value} {Q : Value → Shared → Prop} (D : ZipApart z TI TO i1 i2 l1 l2) (hz : ZAny s.heap z TI TO) (hTI : IsPair s.heap TI (.ref i1) (.ref i2)) (hTO : IsPair s.heap TO a b)
    (h1 : s.heap.IsTupleIter i1 l1 k) (h2 : s.heap.IsTupleIter i2 l2 k) (hl1 : s.heap.IsTuple l1 xs) (hl2 : s.heap.IsTuple l2 ys) (hx : xs[k]? = some x) (hy : ys[k]? = some y)
    (hQ : ∀ h', ZAny h' z TI TO → (∃ a b, IsPair h' TO a b) → h'.IsTupleIter i1 l1 (k + 1) → h'.IsTupleIter i2 l2 (k + 1) → IsPair h' s.heap.objs.size x y → h'.objs.size = s.heap.objs.size + 1 →
      (∀ c o, c ≠ z → c ≠ TO → c ≠ i1 → c ≠ i2 → s.heap.get? c = some o → h'.get? c = some o) → Q (.ref s.heap.objs.size) { s with heap := h' }) :
    wpAny (model prog w) A (Builtin.«zip.__next__» ⟨[.ref z], []⟩) (fun fin s' => ∃ v, fin = .done (.ret v) ∧ Q v s') E s := by
  have hz0 := hz
  obtain ⟨g0, gl, _, hr⟩ := hz
  show wpAny (model prog w) A (field (.ref z) 2 >>= _) _ E s
  refine wpAny_bind (wpAny_field (s := s) hr rfl (x := .bool false) rfl ?_)
  show wpAny (model prog w) A (field (.ref z) 3 >>= _) _ E s
  refine wpAny_bind (wpAny_field (s := s) hr rfl (x := .ref TI) rfl ?_)
  refine wpAny_bind (wpAny_seqItems (s := s) hTI rfl ?_)
  show wpAny (model prog w) A (Builtin.SmallTypes.ownedTupleIsFree (.ref z) >>= _) _ E s
  refine wpAny_bind (zany_free hz0 fun free h₁ f0 fl hz₁ hs₁ hf => ?_)
  have hTO₁ : IsPair h₁ TO a b := hs₁.extBut _ _ D.TOz hTO
  have h1₁ := h1.extBut hs₁.extBut D.i1z
  have h2₁ := h2.extBut hs₁.extBut D.i2z
  have hl1₁ := hl1.extBut hs₁.extBut D.l1z
  have hl2₁ := hl2.extBut hs₁.extBut D.l2z
  cases free with
  | false =>
    simp only [Bool.false_eq_true, if_false]
    refine wpAny_bind ?_
    rw [← Array.forIn_toList]
    simp only [List.forIn_cons, List.forIn_nil]
    refine wpAny_bind (wpAny_bind (wpAny_holding ?_))
    show wpAny (model prog w) A (Builtin.SmallTypes.nextOf (.ref i1) >>= _) _ E _
    refine wpAny_bind (nextOf_tuple_item (s := { s with heap := h₁ }) h1₁ hl1₁ hx fun h₂ h1₂ hs₂ => wpAny_pure ?_)
    refine wpAny_pure ?_
    refine wpAny_bind (wpAny_bind (wpAny_holding ?_))
    show wpAny (model prog w) A (Builtin.SmallTypes.nextOf (.ref i2) >>= _) _ E _
    refine wpAny_bind (nextOf_tuple_item (s := { s with heap := h₂ }) (h2₁.extBut hs₂.extBut D.i12.symm) (hl2₁.extBut hs₂.extBut D.l2i1) hy fun h₃ h2₃ hs₃ => wpAny_pure ?_)
    refine wpAny_pure (wpAny_pure ?_)
    show wpAny (model prog w) A (newTuple [x, y] >>= _) _ E _
    refine wpAny_bind (wpAny_newTuple ?_)
    have n : h₃.objs.size = s.heap.objs.size := by rw [hs₃.1, hs₂.1]; exact hs₁.1
    have hz₃ : ZRec h₃ z TI TO f0 fl := hs₃.extBut _ _ D.i2z.symm (hs₂.extBut _ _ D.i1z.symm hz₁)
    have kp : ∀ c o, c ≠ z → c ≠ i1 → c ≠ i2 → s.heap.get? c = some o → h₃.get? c = some o := fun c o c1 c2 c3 e => hs₃.extBut _ _ c3 (hs₂.extBut _ _ c2 (hs₁.extBut _ _ c1 e))
    refine wpAny_pure ⟨_, rfl, ?_⟩
    show Q (.ref h₃.objs.size) _
    have up : ∀ c o, h₃.get? c = some o → (h₃.push { cls := .type "tuple", data := .seq #[x, y] }).get? c = some o := fun c o e => Heap.get?_push_of_some _ e
    have q1 : IsPair (h₃.push { cls := .type "tuple", data := .seq #[x, y] }) h₃.objs.size x y := Heap.get?_push_size _ rfl
    have q2 : (h₃.push { cls := .type "tuple", data := .seq #[x, y] }).objs.size = h₃.objs.size + 1 := Heap.size_push ..
    rw [n] at q1 q2 ⊢
    exact hQ _ ⟨f0, fl, hf, up _ _ hz₃⟩ ⟨a, b, up _ _ (kp _ _ D.TOz D.TOi1 D.TOi2 hTO)⟩ ((h1₂.extBut hs₃.extBut D.i12).at fun o e => up _ o e) (h2₃.at fun o e => up _ o e) q1 q2 fun c o c1 _ c3 c4 e => up _ _ (kp c o c1 c3 c4 e)
  | true =>
    simp only [if_true]
    refine wpAny_bind (wpAny_rule ?_)
    refine wpAny_bind (wpAny_field (s := { s with heap := h₁ }) hz₁ rfl (x := .ref TO) rfl ?_)
    refine wpAny_bind (wpAny_setField_rec (s := { s with heap := h₁ }) hz₁ (by simp) fun h₂ hz₂ hs₂ => ?_)
    replace hz₂ : ZRec h₂ z TI TO .ellipsis fl := hz₂
    refine wpAny_bind ?_
    simp only [List.zipIdx_cons, List.zipIdx_nil, List.forIn_cons, List.forIn_nil]
    refine wpAny_bind (wpAny_bind (wpAny_onRaise ?_))
    show wpAny (model prog w) A (Builtin.SmallTypes.nextOf (.ref i1) >>= _) _ _ _
    refine wpAny_bind (nextOf_tuple_item (s := { s with heap := h₂ }) (h1₁.extBut hs₂.extBut D.i1z) (hl1₁.extBut hs₂.extBut D.l1z) hx fun h₃ h1₃ hs₃ => wpAny_pure ?_)
    have hTO₃ : IsPair h₃ TO a b := hs₃.extBut _ _ D.TOi1 (hs₂.extBut _ _ D.TOz hTO₁)
    refine wpAny_bind (wpAny_seqItems (s := { s with heap := h₃ }) hTO₃ rfl ?_)
    refine wpAny_bind (wpAny_updateSeq_pair (s := { s with heap := h₃ }) hTO₃ fun h₄ hTO₄ hs₄ => ?_)
    replace hTO₄ : IsPair h₄ TO x b := hTO₄
    refine wpAny_bind (wpAny_letGo (wpAny_pure ?_))
    refine wpAny_bind (wpAny_bind (wpAny_onRaise ?_))
    show wpAny (model prog w) A (Builtin.SmallTypes.nextOf (.ref i2) >>= _) _ _ _
    refine wpAny_bind (nextOf_tuple_item (s := { s with heap := h₄ }) (((h2₁.extBut hs₂.extBut D.i2z).extBut hs₃.extBut D.i12.symm).extBut hs₄.extBut D.TOi2.symm)
      (((hl2₁.extBut hs₂.extBut D.l2z).extBut hs₃.extBut D.l2i1).extBut hs₄.extBut D.l2TO) hy fun h₅ h2₅ hs₅ => wpAny_pure ?_)
    have hTO₅ : IsPair h₅ TO x b := hs₅.extBut _ _ D.TOi2 hTO₄
    refine wpAny_bind (wpAny_seqItems (s := { s with heap := h₅ }) hTO₅ rfl ?_)
    refine wpAny_bind (wpAny_updateSeq_pair (s := { s with heap := h₅ }) hTO₅ fun h₆ hTO₆ hs₆ => ?_)
    replace hTO₆ : IsPair h₆ TO x y := hTO₆
    refine wpAny_bind (wpAny_letGo (wpAny_pure (wpAny_pure ?_)))
    refine wpAny_bind (wpAny_seqItems (s := { s with heap := h₆ }) hTO₆ rfl ?_)
    refine wpAny_bind (wpAny_newTuple ?_)
    have n : h₆.objs.size = s.heap.objs.size := by rw [hs₆.1, hs₅.1, hs₄.1, hs₃.1, hs₂.1]; exact hs₁.1
    have kp : ∀ c o, c ≠ z → c ≠ TO → c ≠ i1 → c ≠ i2 → s.heap.get? c = some o → h₆.get? c = some o := fun c o c1 c2 c3 c4 e =>
      hs₆.extBut _ _ c2 (hs₅.extBut _ _ c4 (hs₄.extBut _ _ c2 (hs₃.extBut _ _ c3 (hs₂.extBut _ _ c1 (hs₁.extBut _ _ c1 e)))))
    have hz₆ : ZRec h₆ z TI TO .ellipsis fl := hs₆.extBut _ _ D.TOz.symm (hs₅.extBut _ _ D.i2z.symm (hs₄.extBut _ _ D.TOz.symm (hs₃.extBut _ _ D.i1z.symm hz₂)))
    have j1 : h₆.IsTupleIter i1 l1 (k + 1) := ((h1₃.extBut hs₄.extBut D.TOi1.symm).extBut hs₅.extBut D.i12).extBut hs₆.extBut D.TOi1.symm
    have j2 : h₆.IsTupleIter i2 l2 (k + 1) := h2₅.extBut hs₆.extBut D.TOi2.symm
    have zl : z < h₆.objs.size := Heap.lt_size hz₆
    show wpAny (model prog w) A (Builtin.SmallTypes.ownedTupleHandOut (.ref z) (.ref h₆.objs.size) >>= _) _ E _
    refine wpAny_bind ?_
    unfold Builtin.SmallTypes.ownedTupleHandOut
    have hz₇ : ZRec (h₆.push { cls := .type "tuple", data := .seq #[x, y] }) z TI TO .ellipsis fl := Heap.get?_push_of_some _ hz₆
    refine wpAny_bind (wpAny_setField_rec hz₇ (by simp) fun h₈ hz₈ hs₈ => ?_)
    replace hz₈ : ZRec h₈ z TI TO (rawInt h₆.objs.size) fl := hz₈
    refine wpAny_setField_rec hz₈ (by simp) fun h₉ hz₉ hs₉ => ?_
    replace hz₉ : ZRec h₉ z TI TO (rawInt h₆.objs.size) false := hz₉
    have up : ∀ c o, c ≠ z → h₆.get? c = some o → h₉.get? c = some o := fun c o c1 e => hs₉.extBut _ _ c1 (hs₈.extBut _ _ c1 (Heap.get?_push_of_some _ e))
    have q1 : IsPair h₉ h₆.objs.size x y := hs₉.extBut _ _ (Nat.ne_of_gt zl) (hs₈.extBut _ _ (Nat.ne_of_gt zl) (Heap.get?_push_size _ rfl))
    have q2 : h₉.objs.size = h₆.objs.size + 1 := by rw [hs₉.1, hs₈.1, Heap.size_push]
    refine wpAny_pure ⟨_, rfl, ?_⟩
    show Q (.ref h₆.objs.size) _
    rw [n] at q1 q2 hz₉ ⊢
    exact hQ h₉ ⟨_, false, .inr ⟨_, rfl⟩, hz₉⟩ ⟨x, y, up _ _ D.TOz hTO₆⟩ (j1.at fun o e => up _ o D.i1z e) (j2.at fun o e => up _ o D.i2z e) q1 q2 fun c o c1 c2 c3 c4 e => up c o c1 (kp c o c1 c2 c3 c4 e)
theorem zany_end {a b : Value} {Q : Fin → Shared → Prop} (hh : A.handled = none) (D : ZipApart z TI TO i1 i2 l1 l2) (hz : ZAny s.heap z TI TO) (hTI : IsPair s.heap TI (.ref i1) (.ref i2)) (hTO : IsPair s.heap TO a b)
    (h1 : s.heap.IsTupleIter i1 l1 k) (h2 : s.heap.IsTupleIter i2 l2 k) (hl1 : s.heap.IsTuple l1 xs) (hl2 : s.heap.IsTuple l2 ys) (hend : xs[k]? = none ∨ ys[k]? = none)
    (hE : ∀ h' e, (∀ c o, c ≠ z → c ≠ TO → c ≠ i1 → c ≠ i2 → s.heap.get? c = some o → h'.get? c = some o) → (∃ o, h'.get? e = some o ∧ o.cls = .type "StopIteration") → E (.ref e) { s with heap := h' }) :
    wpAny (model prog w) A (Builtin.«zip.__next__» ⟨[.ref z], []⟩) Q E s := by
  have hz0 := hz
  obtain ⟨g0, gl, _, hr⟩ := hz
  show wpAny (model prog w) A (field (.ref z) 2 >>= _) _ E s
  refine wpAny_bind (wpAny_field (s := s) hr rfl (x := .bool false) rfl ?_)
  show wpAny (model prog w) A (field (.ref z) 3 >>= _) _ E s
  refine wpAny_bind (wpAny_field (s := s) hr rfl (x := .ref TI) rfl ?_)
  refine wpAny_bind (wpAny_seqItems (s := s) hTI rfl ?_)
  show wpAny (model prog w) A (Builtin.SmallTypes.ownedTupleIsFree (.ref z) >>= _) _ E s
  refine wpAny_bind (zany_free hz0 fun free h₁ f0 fl hz₁ hs₁ hf => ?_)
  have hTO₁ : IsPair h₁ TO a b := hs₁.extBut _ _ D.TOz hTO
  have h1₁ := h1.extBut hs₁.extBut D.i1z
  have h2₁ := h2.extBut hs₁.extBut D.i2z
  have hl1₁ := hl1.extBut hs₁.extBut D.l1z
  have hl2₁ := hl2.extBut hs₁.extBut D.l2z
  cases free with
  | false =>
    simp only [Bool.false_eq_true, if_false]
    refine wpAny_bind ?_
    rw [← Array.forIn_toList]
    simp only [List.forIn_cons, List.forIn_nil]
    refine wpAny_bind (wpAny_bind (wpAny_holding ?_))
    show wpAny (model prog w) A (Builtin.SmallTypes.nextOf (.ref i1) >>= _) _ E _
    cases hx : xs[k]? with
    | none =>
      refine wpAny_bind (nextOf_tuple_end (s := { s with heap := h₁ }) hh h1₁ hl1₁ hx fun h₂ e hs₂ he => ?_)
      exact hE h₂ e (fun c o c1 _ c3 _ q => hs₂ _ _ c3 (hs₁.extBut _ _ c1 q)) he
    | some x =>
      have hy : ys[k]? = none := hend.resolve_left (by rw [hx]; exact fun q => nomatch q)
      refine wpAny_bind (nextOf_tuple_item (s := { s with heap := h₁ }) h1₁ hl1₁ hx fun h₂ h1₂ hs₂ => wpAny_pure ?_)
      refine wpAny_pure ?_
      refine wpAny_bind (wpAny_bind (wpAny_holding ?_))
      show wpAny (model prog w) A (Builtin.SmallTypes.nextOf (.ref i2) >>= _) _ E _
      refine wpAny_bind (nextOf_tuple_end (s := { s with heap := h₂ }) hh (h2₁.extBut hs₂.extBut D.i12.symm) (hl2₁.extBut hs₂.extBut D.l2i1) hy fun h₃ e hs₃ he => ?_)
      exact hE h₃ e (fun c o c1 _ c3 c4 q => hs₃ _ _ c4 (hs₂.extBut _ _ c3 (hs₁.extBut _ _ c1 q))) he
  | true =>
    simp only [if_true]
    refine wpAny_bind (wpAny_rule ?_)
    refine wpAny_bind (wpAny_field (s := { s with heap := h₁ }) hz₁ rfl (x := .ref TO) rfl ?_)
    refine wpAny_bind (wpAny_setField_rec (s := { s with heap := h₁ }) hz₁ (by simp) fun h₂ hz₂ hs₂ => ?_)
    replace hz₂ : ZRec h₂ z TI TO .ellipsis fl := hz₂
    refine wpAny_bind ?_
    simp only [List.zipIdx_cons, List.zipIdx_nil, List.forIn_cons, List.forIn_nil]
    refine wpAny_bind (wpAny_bind (wpAny_onRaise ?_))
    show wpAny (model prog w) A (Builtin.SmallTypes.nextOf (.ref i1) >>= _) _ _ _
    have fin : ∀ (h' : Heap) (e : Addr), ZRec h' z TI TO .ellipsis fl → (∃ o, h'.get? e = some o ∧ o.cls = .type "StopIteration") → (∀ c o, c ≠ z → c ≠ TO → c ≠ i1 → c ≠ i2 → s.heap.get? c = some o → h'.get? c = some o) →
        ∀ h'' : Heap, Heap.SameBut z h' h'' → E (.ref e) { s with heap := h'' } := fun h' e r he kp h'' sb => by
      obtain ⟨o, ho, hc⟩ := he
      have ne : e ≠ z := fun q => by subst q; rw [ZRec, ho] at r; cases r; simp at hc
      exact hE h'' e (fun c o c1 c2 c3 c4 q => sb.extBut _ _ c1 (kp c o c1 c2 c3 c4 q)) ⟨o, sb.extBut _ _ ne ho, hc⟩
    cases hx : xs[k]? with
    | none =>
      refine wpAny_bind (nextOf_tuple_end (s := { s with heap := h₂ }) hh (h1₁.extBut hs₂.extBut D.i1z) (hl1₁.extBut hs₂.extBut D.l1z) hx fun h₃ e hs₃ he => ?_)
      have r : ZRec h₃ z TI TO .ellipsis fl := hs₃ _ _ D.i1z.symm hz₂
      exact wpAny_setField_rec r (by simp) fun h₄ _ sb => fin h₃ e r he (fun c o c1 _ c3 _ q => hs₃ _ _ c3 (hs₂.extBut _ _ c1 (hs₁.extBut _ _ c1 q))) h₄ sb
    | some x =>
      have hy : ys[k]? = none := hend.resolve_left (by rw [hx]; exact fun q => nomatch q)
      refine wpAny_bind (nextOf_tuple_item (s := { s with heap := h₂ }) (h1₁.extBut hs₂.extBut D.i1z) (hl1₁.extBut hs₂.extBut D.l1z) hx fun h₃ h1₃ hs₃ => wpAny_pure ?_)
      have hTO₃ : IsPair h₃ TO a b := hs₃.extBut _ _ D.TOi1 (hs₂.extBut _ _ D.TOz hTO₁)
      refine wpAny_bind (wpAny_seqItems (s := { s with heap := h₃ }) hTO₃ rfl ?_)
      refine wpAny_bind (wpAny_updateSeq_pair (s := { s with heap := h₃ }) hTO₃ fun h₄ hTO₄ hs₄ => ?_)
      refine wpAny_bind (wpAny_letGo (wpAny_pure ?_))
      refine wpAny_bind (wpAny_bind (wpAny_onRaise ?_))
      show wpAny (model prog w) A (Builtin.SmallTypes.nextOf (.ref i2) >>= _) _ _ _
      refine wpAny_bind (nextOf_tuple_end (s := { s with heap := h₄ }) hh (((h2₁.extBut hs₂.extBut D.i2z).extBut hs₃.extBut D.i12.symm).extBut hs₄.extBut D.TOi2.symm)
        (((hl2₁.extBut hs₂.extBut D.l2z).extBut hs₃.extBut D.l2i1).extBut hs₄.extBut D.l2TO) hy fun h₅ e hs₅ he => ?_)
      have r : ZRec h₅ z TI TO .ellipsis fl := hs₅ _ _ D.i2z.symm (hs₄.extBut _ _ D.TOz.symm (hs₃.extBut _ _ D.i1z.symm hz₂))
      exact wpAny_setField_rec r (by simp) fun h₆ _ sb => fin h₅ e r he (fun c o c1 c2 c3 c4 q => hs₅ _ _ c4 (hs₄.extBut _ _ c2 (hs₃.extBut _ _ c3 (hs₂.extBut _ _ c1 (hs₁.extBut _ _ c1 q))))) h₆ sb
end
end EV
namespace EV
open PySem PySem.Spec PyProof.Rows L2 RZ
def ZSt (z TI TO i1 i2 l1 l2 : Addr) (k : Nat) (h : Heap) : Prop := ZAny h z TI TO ∧ IsPair h TI (.ref i1) (.ref i2) ∧ (∃ a b, IsPair h TO a b) ∧ h.IsTupleIter i1 l1 k ∧ h.IsTupleIter i2 l2 k
section
variable {prog : Program} {w : World} {A : Around} {E : Value → Shared → Prop} {s : Shared} {z TI TO i1 i2 l1 l2 e : Addr} {k : Nat} {xs ys : Array Value}
theorem ZSt.at {h h' : Heap} (st : ZSt z TI TO i1 i2 l1 l2 k h) (kp : ∀ c, c = z ∨ c = TI ∨ c = TO ∨ c = i1 ∨ c = i2 → ∀ o, h.get? c = some o → h'.get? c = some o) : ZSt z TI TO i1 i2 l1 l2 k h' := by
  obtain ⟨⟨f0, fl, hf, hr⟩, h1, ⟨a, b, h2⟩, h3, h4⟩ := st
  exact ⟨⟨f0, fl, hf, kp z (.inl rfl) _ hr⟩, kp TI (.inr (.inl rfl)) _ h1, ⟨a, b, kp TO (.inr (.inr (.inl rfl))) _ h2⟩, h3.at fun o q => kp i1 (by simp) o q, h4.at fun o q => kp i2 (by simp) o q⟩
theorem zst_item {x y : Value} {Q : Value → Shared → Prop} (D : ZipApart z TI TO i1 i2 l1 l2) (st : ZSt z TI TO i1 i2 l1 l2 k s.heap) (hl1 : s.heap.IsTuple l1 xs) (hl2 : s.heap.IsTuple l2 ys) (hx : xs[k]? = some x) (hy : ys[k]? = some y)
    (hQ : ∀ h', ZSt z TI TO i1 i2 l1 l2 (k + 1) h' → IsPair h' s.heap.objs.size x y → h'.objs.size = s.heap.objs.size + 1 → (∀ c o, c ≠ z → c ≠ TO → c ≠ i1 → c ≠ i2 → s.heap.get? c = some o → h'.get? c = some o) → Q (.ref s.heap.objs.size) { s with heap := h' }) :
    wpAny (model prog w) A (Builtin.SmallTypes.nextOf (.ref z)) Q E s := by
  obtain ⟨hz, hTI, ⟨a, b, hTO⟩, h1, h2⟩ := st
  obtain ⟨f0, fl, _, hr⟩ := id hz
  have ty : s.TypeIs (.ref z) "zip" := ⟨_, hr, rfl⟩
  unfold Builtin.SmallTypes.nextOf
  refine wpAny_bind (wpAny_callSpecial?_slot (name := Str.ofString "__next__") ty F.slot_zip_next (wpAny_call_entry F.slot_zip_next ty F.entry_zip_next ?_ (F.args_zip_next_1 _)))
  exact zany_item D hz hTI hTO h1 h2 hl1 hl2 hx hy fun h' a1 a2 a3 a4 a5 a6 a7 => wpAny_pure (hQ h' ⟨a1, a7 _ _ D.TIz D.TITO D.TIi1 D.TIi2 hTI, a2, a3, a4⟩ a5 a6 a7)
theorem zst_end {Q : Value → Shared → Prop} (hh : A.handled = none) (D : ZipApart z TI TO i1 i2 l1 l2) (st : ZSt z TI TO i1 i2 l1 l2 k s.heap) (hl1 : s.heap.IsTuple l1 xs) (hl2 : s.heap.IsTuple l2 ys) (hend : xs[k]? = none ∨ ys[k]? = none)
    (hE : ∀ h' e, (∀ c o, c ≠ z → c ≠ TO → c ≠ i1 → c ≠ i2 → s.heap.get? c = some o → h'.get? c = some o) → (∃ o, h'.get? e = some o ∧ o.cls = .type "StopIteration") → E (.ref e) { s with heap := h' }) :
    wpAny (model prog w) A (Builtin.SmallTypes.nextOf (.ref z)) Q E s := by
  obtain ⟨hz, hTI, ⟨a, b, hTO⟩, h1, h2⟩ := st
  obtain ⟨f0, fl, _, hr⟩ := id hz
  have ty : s.TypeIs (.ref z) "zip" := ⟨_, hr, rfl⟩
  unfold Builtin.SmallTypes.nextOf
  refine wpAny_bind (wpAny_callSpecial?_slot (name := Str.ofString "__next__") ty F.slot_zip_next (wpAny_call_entry F.slot_zip_next ty F.entry_zip_next ?_ (F.args_zip_next_1 _)))
  exact zany_end hh D hz hTI hTO h1 h2 hl1 hl2 hend hE
theorem enum_step {i : Nat} {old : Value} {Q : Option Value → Shared → Prop} (he : IsEnum s.heap e z i old)
    (hn : ∀ {Q' : Value → Shared → Prop} {E' : Value → Shared → Prop}, (∀ x h', IsEnum h' e z i old → (∀ h'' tk, IsEnumOut h'' e z ((i : Int) + 1) x h'.objs.size → h''.get? h'.objs.size = some { cls := .type "tuple", data := .seq #[.int i tk, x] } →
        (∀ b o, b ≠ e → h'.get? b = some o → h''.get? b = some o) → Q (some (.ref h'.objs.size)) { s with heap := h'', toks := tk + 1 }) → Q' x { s with heap := h' }) → wpAny (model prog w) A.in1 (Builtin.SmallTypes.nextOf (.ref z)) Q' E' s) :
    wpAny (model prog w) A (pyNext (.ref e)) Q E s := by
  have ty : s.TypeIs (.ref e) "enumerate" := ⟨_, he, rfl⟩
  unfold pyNext
  refine wpAny_bind (wpAny_attempt (wpAny_callSpecial?_slot (name := Str.ofString "__next__") ty F.slot_enumerate_next (wpAny_call_entry F.slot_enumerate_next ty F.entry_enumerate_next ?_ (F.args_enumerate_next_1 _))))
  show wpAny (model prog w) A.in1 (field (.ref e) 2 >>= _) _ _ s
  refine wpAny_bind (wpAny_field (s := s) he rfl (x := .ref z) rfl ?_)
  refine wpAny_bind (hn fun x h he₁ out => ?_)
  obtain ⟨hp, g, d, tk, os⟩ := s
  show wpAny (model prog w) A.in1 (field (.ref e) 3 >>= _) _ _ ⟨h, g, d, tk, os⟩
  refine wpAny_bind (wpAny_field (s := ⟨h, g, d, tk, os⟩) he₁ rfl (x := rawInt i) rfl ?_)
  show wpAny (model prog w) A.in1 (field (.ref e) 4 >>= _) _ _ ⟨h, g, d, tk, os⟩
  refine wpAny_bind (wpAny_field (s := ⟨h, g, d, tk, os⟩) he₁ rfl (x := .none) rfl ?_)
  show wpAny (model prog w) A.in1 (mkInt i >>= _) _ _ ⟨h, g, d, tk, os⟩
  refine wpAny_bind (wpAny_mkInt ?_)
  show wpAny (model prog w) A.in1 (setField (.ref e) 3 (rawInt ((i : Int) + 1)) >>= _) _ _ ⟨h, g, d, tk + 1, os⟩
  refine wpAny_bind (wpAny_setField_rec (s := ⟨h, g, d, tk + 1, os⟩) he₁ (by simp) fun h₂ he₂ sb₂ => ?_)
  replace he₂ : IsEnum h₂ e z ((i : Int) + 1) old := he₂
  show wpAny (model prog w) A.in1 (setField (.ref e) 4 .none >>= _) _ _ ⟨h₂, g, d, tk + 1, os⟩
  refine wpAny_bind (wpAny_setField_rec (s := ⟨h₂, g, d, tk + 1, os⟩) he₂ (by simp) fun h₃ he₃ sb₃ => ?_)
  replace he₃ : IsEnum h₃ e z ((i : Int) + 1) old := he₃
  show wpAny (model prog w) A.in1 (newTuple [.int i tk, x] >>= _) _ _ ⟨h₃, g, d, tk + 1, os⟩
  refine wpAny_bind (wpAny_newTuple ?_)
  show wpAny (model prog w) A.in1 (Builtin.SmallTypes.ownedTupleIsFree (.ref e) >>= _) _ _ _
  have n : h₃.objs.size = h.objs.size := by rw [sb₃.1, sb₂.1]
  have el : e < h₃.objs.size := Heap.lt_size he₃
  have he₄ : IsEnum (h₃.push { cls := .type "tuple", data := .seq #[.int i tk, x] }) e z ((i : Int) + 1) old := Heap.get?_push_of_some _ he₃
  have new : (h₃.push { cls := .type "tuple", data := .seq #[.int i tk, x] }).get? h₃.objs.size = some { cls := .type "tuple", data := .seq #[.int i tk, x] } := Heap.get?_push_size _ rfl
  refine wpAny_bind ?_
  unfold Builtin.SmallTypes.ownedTupleIsFree
  refine wpAny_bind (wpAny_field he₄ rfl (x := .none) rfl (wpAny_pure ?_))
  simp only [if_true]
  refine wpAny_bind (wpAny_rule ?_)
  refine wpAny_bind (wpAny_field he₄ rfl (x := old) rfl ?_)
  refine wpAny_bind (wpAny_setField_rec he₄ (by simp) fun h₅ he₅ sb₅ => ?_)
  replace he₅ : IsEnum h₅ e z ((i : Int) + 1) x := he₅
  show wpAny (model prog w) A.in1 (Builtin.SmallTypes.ownedTupleHandOut (.ref e) (.ref h₃.objs.size) >>= _) _ _ ⟨h₅, g, d, tk + 1, os⟩
  refine wpAny_bind ?_
  unfold Builtin.SmallTypes.ownedTupleHandOut
  refine wpAny_bind (wpAny_setField_rec (s := ⟨h₅, g, d, tk + 1, os⟩) he₅ (by simp) fun h₆ he₆ sb₆ => ?_)
  replace he₆ : IsEnumOut h₆ e z ((i : Int) + 1) x h₃.objs.size := he₆
  refine wpAny_setField_rec (s := ⟨h₆, g, d, tk + 1, os⟩) he₆ (by simp) fun h₇ he₇ sb₇ => ?_
  replace he₇ : IsEnumOut h₇ e z ((i : Int) + 1) x h₃.objs.size := he₇
  have up : ∀ b o, b ≠ e → (h₃.push { cls := .type "tuple", data := .seq #[.int i tk, x] }).get? b = some o → h₇.get? b = some o := fun b o hb q => sb₇.extBut b o hb (sb₆.extBut b o hb (sb₅.extBut b o hb q))
  have t7 := up _ _ (Nat.ne_of_gt el) new
  have kp : ∀ b o, b ≠ e → h.get? b = some o → h₇.get? b = some o := fun b o hb q => up b o hb (Heap.get?_push_of_some _ (sb₃.extBut b o hb (sb₂.extBut b o hb q)))
  refine wpAny_bind (wpAny_letGo (wpAny_pure ⟨_, rfl, wpAny_pure ?_⟩))
  show Q (some (.ref h₃.objs.size)) _
  rw [n] at t7 he₇ ⊢
  exact out h₇ tk he₇ t7 kp
theorem enum_stop {i : Int} {old : Value} {Q : Option Value → Shared → Prop} (he : IsEnum s.heap e z i old)
    (hn : ∀ {Q' : Value → Shared → Prop} {E' : Value → Shared → Prop}, (∀ h' x, (∃ o, h'.get? x = some o ∧ o.cls = .type "StopIteration") → Q none { s with heap := h' } → E' (.ref x) { s with heap := h' }) → wpAny (model prog w) A.in1 (Builtin.SmallTypes.nextOf (.ref z)) Q' E' s) :
    wpAny (model prog w) A (pyNext (.ref e)) Q E s := by
  have ty : s.TypeIs (.ref e) "enumerate" := ⟨_, he, rfl⟩
  unfold pyNext
  refine wpAny_bind (wpAny_attempt (wpAny_callSpecial?_slot (name := Str.ofString "__next__") ty F.slot_enumerate_next (wpAny_call_entry F.slot_enumerate_next ty F.entry_enumerate_next ?_ (F.args_enumerate_next_1 _))))
  show wpAny (model prog w) A.in1 (field (.ref e) 2 >>= _) _ _ s
  refine wpAny_bind (wpAny_field (s := s) he rfl (x := .ref z) rfl ?_)
  refine wpAny_bind (hn fun h x hx q => ?_)
  obtain ⟨o, ho, hc⟩ := hx
  refine wpAny_bind (wpAny_isInstance (T := "StopIteration") (b := true) ⟨o, ho, hc⟩ isSubtype_stop ?_)
  exact wpAny_pure q
end
end EV
namespace EV
open PySem PySem.Spec PyProof.Rows L2 RZ
theorem meets_enumZ {v : Value} {z TI TO : Addr} {f0 : Value} : Meets (Builtin.«enumerate.__new__» ⟨[.type "enumerate", .ref z], []⟩) (fun _ R s => IsZip s.heap z TI TO f0 ∧
    R (.ok (.ret (.ref s.heap.objs.size))) { s with heap := s.heap.push { cls := .type "enumerate", data := .fields #[.none, .bool false, .ref z, rawInt 0, .none, .none] } }) :=
  .of_wp fun prog w A R s ⟨hz, h⟩ => by
    obtain ⟨hp, g, d, tk, os⟩ := s
    have hsub := sub_enumerate
    have it1 : ∀ {A' : Around} {E Q : Value → Shared → Prop}, Q (.ref z) ⟨hp, g, d, tk, os⟩ → wpAny (model prog w) A' (pyIter (.ref z)) Q E ⟨hp, g, d, tk, os⟩ := fun q => wpAny_pyIter_zip (s := ⟨hp, g, d, tk, os⟩) hz q
    wp_walk using it1
    refine wpAny_stack_any fun st => wpAny_pure ?_
    split
    · rename_i c _ _ _ _ _
      cases (c == Value.type "enumerate") <;> (wp_walk using it1; exact ⟨_, rfl, h⟩)
    · wp_walk using it1
      exact ⟨_, rfl, h⟩
theorem call_enumZ {prog : Program} {w : World} {A : Around} {E Q : Value → Shared → Prop} {s : Shared} {z TI TO : Addr} {f0 : Value} (hz : IsZip s.heap z TI TO f0)
    (h : ∀ h', IsEnum h' s.heap.objs.size z ((0 : Nat) : Int) .none → (∀ b u, s.heap.get? b = some u → h'.get? b = some u) → Q (.ref s.heap.objs.size) { s with heap := h' }) : wpAny (model prog w) A (call (.type "enumerate") [.ref z]) Q E s := by
  refine callType_new F.called_enumerate (by decide) (F.typeCall_enumerate_1 _) (F.newCall_enumerate_1 _) (fun obj => F.args_object_init_2 obj _) F.entry_enumerate_new (meets_enumZ (v := .none)) ⟨hz, ?_⟩
  have he := Heap.get?_push_size s.heap (o := { cls := .type "enumerate", data := .fields #[.none, .bool false, .ref z, rawInt 0, .none, .none] }) rfl
  exact ⟨⟨_, he, rfl⟩, h _ he fun b u x => Heap.get?_push_of_some _ x⟩
def ItEZ (K : PySem.W.Frag) (a b : Addr) : It :=
  ⟨fun i H => ∃ (xs ys : List V) (x y : V), SqT K H a xs ∧ SqT K H b ys ∧ xs[i]? = some x ∧ ys[i]? = some y,
    fun i H v H' => ∃ T U x y, v = .ref U ∧ H T = none ∧ U ≠ T ∧ H U = none ∧ H' = upd (upd H T (.tup [x, y])) U (.tup [.int (i : Nat), .ref T]) ∧ (∀ xs, SqT K H a xs → xs[i]? = some x) ∧ ∀ ys, SqT K H b ys → ys[i]? = some y,
    fun i H => ∃ xs ys : List V, SqT K H a xs ∧ SqT K H b ys ∧ (xs.length ≤ i ∨ ys.length ≤ i)⟩
theorem turn_EZ {P : Program} {w : World} {K : PySem.W.Frag} {elts : List Expr} {kk : Nat} {tpos : Pos} {e a b z TI TO i1 i2 : Addr} (D : ZipApart z TI TO i1 i2 a b) (n0 : e ≠ z) (n1 : e ≠ TI) (n2 : e ≠ TO) (n3 : e ≠ i1) (n4 : e ≠ i2) :
    Turn P w K (.Tuple elts kk tpos) (ItEZ K a b) [e, z, TI, TO, i1, i2] e (fun i h => (∃ old, IsEnum h e z ((i : Nat) : Int) old) ∧ ZSt z TI TO i1 i2 a b i h) where
  mem := by simp
  obj := fun i h ⟨⟨old, he⟩, ⟨f0, fl, _, hr⟩, hTI, ⟨x, y, hTO⟩, ⟨o1, e1, _, d1⟩, ⟨o2, e2, _, d2⟩⟩ c hc => by
    have e' : c = e ∨ c = z ∨ c = TI ∨ c = TO ∨ c = i1 ∨ c = i2 := by simpa using hc
    rcases e' with q | q | q | q | q | q
    · rw [q]; exact ⟨_, he, fun v q => nomatch q⟩
    · rw [q]; exact ⟨_, hr, fun v q => nomatch q⟩
    · rw [q]; exact ⟨_, hTI, fun v q => nomatch q⟩
    · rw [q]; exact ⟨_, hTO, fun v q => nomatch q⟩
    · rw [q]; exact ⟨o1, e1, fun v q => by rw [d1] at q; cases q⟩
    · rw [q]; exact ⟨o2, e2, fun v q => by rw [d2] at q; cases q⟩
  keep := fun i h h' ⟨⟨old, he⟩, st⟩ k => ⟨⟨old, k e (by simp) _ he⟩, st.at fun c hc o q => k c (by rcases hc with r | r | r | r | r <;> simp [r]) o q⟩
  item := by
    intro X hP hw hK hc i pins s σ H E I hf ⟨⟨old, he⟩, st⟩ ⟨vs, us, x, y, hqx, hqy, hx, hy⟩
    subst hP hw hK
    obtain ⟨its, rv, p, _⟩ := I.tuple hqx
    obtain ⟨its2, rv2, p2, _⟩ := I.tuple hqy
    obtain ⟨u, hu, ru⟩ := rv.get hx
    obtain ⟨u2, hu2, ru2⟩ := rv2.get hy
    have el : e < s.heap.objs.size := Heap.lt_size he
    refine enum_step he fun {Q' E'} k => zst_item D st p p2 (x := u) (y := u2) (by simpa using hu) (by simpa using hu2) fun h' st' hT hsz kp => k _ h' (kp e _ n0 n2 n3 n4 he) fun h'' tk ho hU kp2 => ?_
    refine ⟨_, rfl, wpAny_letOwnedTupleGo_enum (s := { s with heap := h'', toks := tk + 1 }) ho fun h3 he3 sb => ?_⟩
    have Tl : s.heap.objs.size < h'.objs.size := by rw [hsz]; exact Nat.lt_succ_self _
    have new1 : ObjOk X.prog X.w (upd H s.heap.objs.size (.tup [x, y])) h' s.heap.objs.size (.tup [x, y]) := ⟨by show 2 ≤ sizeLine; decide, [u, u2], .cons ru (.cons ru2 .nil), ⟨_, hT, rfl, _, rfl⟩⟩
    have I1 : Inv X pins σ (upd H s.heap.objs.size (.tup [x, y])) { s with heap := h' } :=
      I.turnedNew (t' := s.toks) (ch := [e, z, TI, TO, i1, i2]) (fun c o hb q => kp c o (fun r => hb (by simp [r])) (fun r => hb (by simp [r])) (fun r => hb (by simp [r])) (fun r => hb (by simp [r])) q) hf (Nat.le_refl _) new1
    have lt : ∀ c ∈ [e, z, TI, TO, i1, i2], c < s.heap.objs.size := fun c hc => by
      obtain ⟨⟨f0, fl, _, hr⟩, hTI, ⟨x', y', hTO⟩, ⟨o1, e1, _⟩, ⟨o2, e2, _⟩⟩ := st
      have e' : c = e ∨ c = z ∨ c = TI ∨ c = TO ∨ c = i1 ∨ c = i2 := by simpa using hc
      rcases e' with q | q | q | q | q | q
      · rw [q]; exact el
      · rw [q]; exact Heap.lt_size hr
      · rw [q]; exact Heap.lt_size hTI
      · rw [q]; exact Heap.lt_size hTO
      · rw [q]; exact Heap.lt_size e1
      · rw [q]; exact Heap.lt_size e2
    have hf1 : ∀ c ∈ [e, z, TI, TO, i1, i2], FpOk X pins (upd H s.heap.objs.size (.tup [x, y])) c := fun c hc => ⟨by rw [upd_ne (Nat.ne_of_lt (lt c hc))]; exact (hf c hc).1, (hf c hc).2⟩
    have hU2 : h3.get? h'.objs.size = some { cls := .type "tuple", data := .seq #[.int i tk, .ref s.heap.objs.size] } := (sb.2 _ (Nat.ne_of_gt (Nat.lt_trans el Tl))).trans hU
    have new2 : ObjOk X.prog X.w (upd (upd H s.heap.objs.size (.tup [x, y])) h'.objs.size (.tup [.int (i : Nat), .ref s.heap.objs.size])) h3 h'.objs.size (.tup [.int (i : Nat), .ref s.heap.objs.size]) :=
      ⟨by show 2 ≤ sizeLine; decide, [.int i tk, .ref s.heap.objs.size], .cons ⟨_, rfl⟩ (.cons rfl .nil), ⟨_, hU2, rfl, _, rfl⟩⟩
    have I2 : Inv X pins σ (upd (upd H s.heap.objs.size (.tup [x, y])) h'.objs.size (.tup [.int (i : Nat), .ref s.heap.objs.size])) { s with heap := h3, toks := tk + 1 } :=
      I1.turnedNew (s := { s with heap := h' }) (t' := tk + 1) (ch := [e, z, TI, TO, i1, i2]) (fun c o hb q => (sb.2 c (fun r => hb (by simp [r]))).trans (kp2 c o (fun r => hb (by simp [r])) q)) hf1 (Nat.le_refl _) new2
    have hTn : H s.heap.objs.size = none := I.hok.fresh (Nat.le_refl _)
    have hUn : H h'.objs.size = none := I.hok.fresh (Nat.le_of_lt Tl)
    refine ⟨.ref h'.objs.size, _, I2, rfl, ⟨_, _, x, y, rfl, hTn, Nat.ne_of_gt Tl, hUn, rfl, fun l hl => by rw [I.tuple_inj hl hqx]; exact hx, fun l hl => by rw [I.tuple_inj hl hqy]; exact hy⟩, ⟨⟨.ref s.heap.objs.size, ?_⟩, st'.at fun c hcz o q => ?_⟩, fun c hc => ?_⟩
    · have e1 : ((i + 1 : Nat) : Int) = (i : Int) + 1 := by omega
      rw [e1]; exact he3
    · have ce : c ≠ e := by
        rcases hcz with r | r | r | r | r <;> subst r
        · exact n0.symm
        · exact n1.symm
        · exact n2.symm
        · exact n3.symm
        · exact n4.symm
      exact (sb.2 c ce).trans (kp2 c o ce q)
    · rw [upd_ne (Nat.ne_of_lt (Nat.lt_trans (lt c hc) Tl)), upd_ne (Nat.ne_of_lt (lt c hc))]
      exact (hf c hc).1
  done := by
    intro X hP hw hK hc i pins s σ H E I hf ⟨⟨old, he⟩, st⟩ ⟨vs, us, hqx, hqy, hend⟩
    subst hP hw hK
    obtain ⟨its, rv, p, _⟩ := I.tuple hqx
    obtain ⟨its2, rv2, p2, _⟩ := I.tuple hqy
    have l1 := rv.length
    have l2 := rv2.length
    have hn : its.toArray[i]? = none ∨ its2.toArray[i]? = none := by
      rcases hend with q | q
      · exact .inl (by simp; omega)
      · exact .inr (by simp; omega)
    refine enum_stop he fun {Q' E'} k => zst_end (by exact I.ok.hd hc) D st p p2 hn fun h' x kp hx => k h' x hx ⟨rfl, ?_⟩
    exact I.turnedL (t' := s.toks) (ch := [e, z, TI, TO, i1, i2]) (fun c o hb q => kp c o (fun r => hb (by simp [r])) (fun r => hb (by simp [r])) (fun r => hb (by simp [r])) (fun r => hb (by simp [r])) q) hf
  self := fun A i s Q E ⟨⟨_, he⟩, _⟩ h => wpAny_pyIter_enum he h
def iEZ (K : PySem.W.Frag) (ta : TA) : TI := fun σ H R => ta σ H fun vs H1 => ∃ a b xs ys, vs = [.ref a, .ref b] ∧ SqT K H1 a xs ∧ SqT K H1 b ys ∧ R (ItEZ K a b) H1
theorem pi_EZ {X : Cx} {c e e2 : Expr} {ta : TA} {p pos tpos p2 pos2 : Pos} {elts : List Expr} {kk : Nat} (ec : c = .Call (.Name "zip" p2) [e, e2] [] pos2) (hg : Gl X "enumerate") (hm : X.mg "enumerate" = none) (hg2 : Gl X "zip") (hm2 : X.mg "zip" = none) (ha : PA X [e, e2] ta)
    (hs : starEach [e, e2] X.env = (false, eval e X.env) :: starEach [e2] X.env) (hpl : (backTo pos2 (starEach [e2] X.env)).any (·.1) = false) (hs1 : starEach [c] X.env = (false, eval c X.env) :: starEach [] X.env) :
    PI X (.Tuple elts kk tpos) (.Call (.Name "enumerate" p) [c] [] pos) (iEZ X.K ta) := by
  refine ⟨fun pins s σ H R I h => ?_⟩
  refine Call_ (ld_blt I hg hm boot_enumerate (PyProof.Rows.callWith_type1 (args_cons ?_ hs1) hs1 rfl))
  subst ec
  refine Call_ (ld_blt I hg2 hm2 PyProof.Rows.boot_zip (PyProof.Rows.callWith_type1 (thn (ha.run pos2 pins s σ H _ I h) fun us s1 ⟨vs, H1, I1, r1, a, b, xs, ys, ex, hqx, hqy, q⟩ => ?_) hs hpl))
  subst ex
  cases r1 with
  | cons r rr =>
    cases rr with
    | cons r' rr =>
      cases rr
      cases r
      cases r'
      obtain ⟨its, rv, p1, _⟩ := I1.tuple hqx
      obtain ⟨its2, rv2, p2, _⟩ := I1.tuple hqy
      obtain ⟨o1, ho1, _⟩ := id p1
      obtain ⟨o2, ho2, _⟩ := id p2
      have D := PySem.W.ktu_apart s1.heap.objs.size a b (Heap.lt_size ho1) (Heap.lt_size ho2)
      refine call_zipT (show s1.heap.IsTuple a its.toArray from p1) (show s1.heap.IsTuple b its2.toArray from p2) fun h1 hz hTI hTO j1 j2 hsz kp => args_nil ?_
      refine call_enumZ (s := { s1 with heap := h1 }) hz fun h2 he kp2 => wpAny_pyIter_enum he ?_
      have I2 : Inv X pins σ H1 { s1 with heap := h2 } := I1.kept (t' := s1.toks) fun c o q => kp2 c o (kp c o q)
      have st : ZSt (s1.heap.objs.size + 4) (s1.heap.objs.size + 2) (s1.heap.objs.size + 3) s1.heap.objs.size (s1.heap.objs.size + 1) a b 0 h2 :=
        ⟨⟨.none, false, .inl rfl, kp2 _ _ hz⟩, kp2 _ _ hTI, ⟨_, _, kp2 _ _ hTO⟩, j1.at fun o q => kp2 _ o q, j2.at fun o q => kp2 _ o q⟩
      have hsz' : (Shared.heap { s1 with heap := h1 }).objs.size = s1.heap.objs.size + 5 := hsz
      rw [hsz'] at he ⊢
      refine ⟨s1.heap.objs.size + 5, [s1.heap.objs.size + 5, s1.heap.objs.size + 4, s1.heap.objs.size + 2, s1.heap.objs.size + 3, s1.heap.objs.size, s1.heap.objs.size + 1], _, _, H1, rfl, I2, turn_EZ (e := s1.heap.objs.size + 5) D (Nat.ne_of_gt (Nat.add_lt_add_left (by decide) _)) (Nat.ne_of_gt (Nat.add_lt_add_left (by decide) _)) (Nat.ne_of_gt (Nat.add_lt_add_left (by decide) _)) (Nat.ne_of_gt (Nat.lt_add_of_pos_right (by decide))) (Nat.ne_of_gt (Nat.add_lt_add_left (by decide) _)), ⟨⟨.none, he⟩, st⟩, fun c hc => ?_, q⟩
      have e' : c = s1.heap.objs.size + 5 ∨ c = s1.heap.objs.size + 4 ∨ c = s1.heap.objs.size + 2 ∨ c = s1.heap.objs.size + 3 ∨ c = s1.heap.objs.size ∨ c = s1.heap.objs.size + 1 := by simpa using hc
      have hle : s1.heap.objs.size ≤ c := by rcases e' with r | r | r | r | r | r <;> rw [r] <;> first | exact Nat.le_add_right _ _ | exact Nat.le_refl _
      exact I1.fpOk hle (I1.hok.fresh hle)
def srcEZ (xs ys : List W) : Src := fun _ i => match xs[i]?, ys[i]? with
  | some x, some y => some (some (.tup [.int (i : Nat), .tup [x, y]]))
  | _, _ => some none
theorem its_EZ {G : GC} {m : Nat → Addr} {n : Nat} {H : Hp} {a b : Addr} {us vs : List V} {xs ys : List W} (s1 : SqT G.K H a us) (q1 : RWs G m n H xs us) (s2 : SqT G.K H b vs) (q2 : RWs G m n H ys vs) : ItS G m n H (srcEZ xs ys) (ItEZ G.K a b) := by
  intro m' h' H' j rh old le tk kf
  have s1' := tk.seq s1
  have s2' := tk.seq s2
  have q1' := q1.mono old le tk
  have q2' := q2.mono old le tk
  simp only [srcEZ]
  cases c1 : xs[j]? with
  | none => exact ⟨fun _ => ⟨us, vs, s1', s2', .inl (by rw [← q1.len]; exact none_len c1)⟩, fun w z => (by cases z)⟩
  | some x =>
    cases c2 : ys[j]? with
    | none => exact ⟨fun _ => ⟨us, vs, s1', s2', .inr (by rw [← q2.len]; exact none_len c2)⟩, fun w z => (by cases z)⟩
    | some y =>
      obtain ⟨u, a1, b1⟩ := q1'.get c1
      obtain ⟨v, a2, b2⟩ := q2'.get c2
      refine ⟨fun z => (by cases z), fun w z => ?_⟩
      cases z
      refine ⟨⟨us, vs, u, v, s1', s2', a1, a2⟩, fun x' H'' yl => ?_⟩
      obtain ⟨T, U, p, r, rfl, hT, hUT, hU, rfl, f1, f2⟩ := yl
      have := f1 us s1'; rw [a1] at this; cases this
      have := f2 vs s2'; rw [a2] at this; cases this
      obtain ⟨rh1, v1, r1⟩ := pair_new rh hT b1 b2
      obtain ⟨rh2, v2, r2⟩ := pair_new rh1 (T := U) (by rw [upd_ne hUT]; exact hU) (.int (j : Nat)) r1
      exact ⟨rh2, v1.trans (rh1.mv_ne v1) v2, r2⟩
section
variable {X : Cx} {B : Bx} {c a b : Expr} {fs : FA} {p p2 pos pos2 tpos : Pos}
def iEZf (fs : FA) : FI := fun ρ h => (fs ρ h).bind fun ws h1 => match ws with
  | [.tup xs, .tup ys] => .ok (srcEZ xs ys) h1
  | _ => .no
theorem si_EZ {elts : List Expr} {kk : Nat} (ec : c = .Call (.Name "zip" p2) [a, b] [] pos2) (hK : X.K = B.G.K) (hg : Gl X "enumerate") (hm : X.mg "enumerate" = none) (hg2 : Gl X "zip") (hm2 : X.mg "zip" = none) (ha : SA X B [a, b] fs) (hs : starEach [a, b] X.env = (false, eval a X.env) :: starEach [b] X.env) (hpl : (backTo pos2 (starEach [b] X.env)).any (·.1) = false)
    (hs1 : starEach [c] X.env = (false, eval c X.env) :: starEach [] X.env) :
    SI X B (.Tuple elts kk tpos) (.Call (.Name "enumerate" p) [c] [] pos) (iEZf fs) :=
  pi_imp (pi_EZ ec hg hm hg2 hm2 ha hs hpl hs1) fun σ H R ⟨m, h, ρ, s, o⟩ => ⟨m, h, ρ, s, (Out.bind s.rh o).mono fun vs H1 ⟨ws, m1, h1, r1, v1, q1, o1⟩ => by
    match ws, o1 with
    | [.tup xs, .tup ys], o1 =>
      obtain ⟨v, u, rfl, ra, rb⟩ := rws_two q1
      obtain ⟨a, us, rfl, s1, z1⟩ := rw_tup ra
      obtain ⟨b, vs, rfl, s2, z2⟩ := rw_tup rb
      exact ⟨a, b, us, vs, rfl, by rw [hK]; exact s1, by rw [hK]; exact s2, by rw [hK]; exact o1 m1 H1 _ r1 Mv.refl (its_EZ s1 z1 s2 z2)⟩⟩
end
end EV
namespace EV
open PySem PySem.Spec PyProof.Rows L2
section
variable {ns : List Int} {h : Hpe} {i j : Int}
theorem atI_0 (w : W) (ws : List W) : atI (w :: ws) 0 = some w := by
  unfold atI ixN
  simp
theorem bl_1 {g : List W → Hpe → Res W} {f : FE} {ρ : Rho} {w : W} {h1 : Hpe} (e : f ρ h = .ok w h1) : eBl g (aC f aN) ρ h = g [w] h1 := by
  show ((f ρ h).bind fun w h1 => (aN ρ h1).bind fun ws h2 => Res.ok (w :: ws) h2).bind g = _
  rw [e]
  rfl
theorem e2_ok {g : W → W → Hpe → Res W} {fa fb : FE} {ρ : Rho} {a b : W} {h1 h2 : Hpe} (e : fa ρ h = .ok a h1) (e' : fb ρ h1 = .ok b h2) : e2 g fa fb ρ h = g a b h2 := by
  show ((fa ρ h).bind fun a h1 => (fb ρ h1).bind fun b h2 => g a b h2) = _
  rw [e]
  show ((fb ρ h1).bind fun b h2 => g a b h2) = _
  rw [e']
  rfl
theorem if_ok {t : FT} {fa fb : FE} {ρ : Rho} {b : Bool} {h1 : Hpe} (e : t ρ h = .ok b h1) : eIf t fa fb ρ h = bif b then fa ρ h1 else fb ρ h1 := by
  show ((t ρ h).bind fun b h1 => bif b then fa ρ h1 else fb ρ h1) = _
  rw [e]
  rfl
theorem sif_no {t : FT} {s1 s2 : FS} {ρ : Rho} {h1 : Hpe} (e : t ρ h = .ok false h1) : sIf t s1 s2 ρ h = s2 ρ h1 := by
  show bindS (t ρ h) ρ (fun b h1 => bif b then s1 ρ h1 else s2 ρ h1) = _
  rw [e]
  rfl
theorem sas_n {f : FE} {ρ : Rho} {i : Nat} {w : W} {h1 : Hpe} (e : f ρ h = .ok w h1) : sAs f (gN i) ρ h = .nx (ρ.set i (some w)) h1 := by
  show bindS (f ρ h) ρ (fun w h1 => (gN i w ρ h1).cl) = _
  rw [e]
  exact congrArg (fun r => RS.nx r h1) (setR_eq ρ i (some w))
theorem srt_ok {f : FE} {ρ : Rho} {w : W} {h1 : Hpe} (e : f ρ h = .ok w h1) : sRt f ρ h = .rt w h1 := by
  show bindS (f ρ h) ρ (fun w h1 => .rt w h1) = _
  rw [e]
  rfl
theorem seq_nx {s1 s2 : FS} {ρ ρ' : Rho} {h' : Hpe} (e : s1 ρ h = .nx ρ' h') : sSeq s1 s2 ρ h = s2 ρ' h' := by
  unfold sSeq
  rw [e]
  rfl
theorem seq_rt {s1 s2 : FS} {ρ : Rho} {w : W} {h' : Hpe} (e : s1 ρ h = .rt w h') : sSeq s1 s2 ρ h = .rt w h' := by
  unfold sSeq
  rw [e]
  rfl
theorem run_rt {n : Nat} {f : FS} {ws : List W} {w : W} {h' : Hpe} (e : f (ws.map some ++ List.replicate (n - ws.length) none) h = .rt w h') : runB n f ws h = .ok w h' := by
  unfold runB
  rw [e]
end
end EV
namespace EV
open PySem PySem.Spec PyProof.Rows L2
section
variable {X : Cx} {B : Bx} {a b c : Expr} {f g : FE} {p p2 pos pos2 : Pos}
end
end EV
namespace EV
open PySem PySem.Spec PyProof.Rows L2
theorem rws_app {G : GC} {m : Nat → Addr} {n : Nat} {H : Hp} : ∀ {ws : List W} {vs : List V} {ws' : List W} {vs' : List V}, RWs G m n H ws vs → RWs G m n H ws' vs' → RWs G m n H (ws ++ ws') (vs ++ vs')
  | _, _, _, _, .nil, q => q
  | _, _, _, _, .cons a b, q => .cons a (rws_app b q)
theorem rws_rev {G : GC} {m : Nat → Addr} {n : Nat} {H : Hp} : ∀ {ws : List W} {vs : List V}, RWs G m n H ws vs → RWs G m n H ws.reverse vs.reverse
  | _, _, .nil => .nil
  | _, _, .cons a b => by
    rw [List.reverse_cons, List.reverse_cons]
    exact rws_app (rws_rev b) (.cons a .nil)
end EV
namespace EV
open PySem PySem.Spec PyProof.Rows L2
section
variable {G : GC} {m : Nat → Addr} {n : Nat} {H : Hp}
end
section
variable {X : Cx} {B : Bx} {e : Expr} {fs : FA} {p pos : Pos}
end
end EV
namespace EV
open PySem PySem.Spec PyProof.Rows L2
section
variable {prog : Program} {w : World} {A : Around} {E : Value → Shared → Prop} {s : Shared}
theorem adj_rev (n : Nat) : Builtin.Slice.sliceAdjust none none (-1) (n : Int) = ((n : Int) - 1, -1) := by
  unfold Builtin.Slice.sliceAdjust
  first
  | rfl
  | simp
theorem places_rev (n : Nat) : Builtin.Slice.slicePlaces ((n : Int) - 1) (-1) (-1) = n := by
  unfold Builtin.Slice.slicePlaces
  have h1 : ¬ ((-1 : Int) > 0) := by decide
  simp only [h1, if_false]
  split
  · have e : (((n : Int) - 1 - -1 - 1) / (- -1) + 1).toNat = n := by
      rw [show (- -1 : Int) = 1 by decide, Int.ediv_one]; omega
    first
    | exact e
    | (simp only [show (- -1 : Int) = 1 by decide, Int.ediv_one]; omega)
  · omega
theorem pick_rev (xs : Array Value) : ((List.range xs.size).filterMap fun (k : Nat) => xs[((xs.size : Int) - 1 + (k : Int) * (-1)).toNat]?) = xs.toList.reverse := by
  have e : (List.range xs.size).filterMap (fun (k : Nat) => xs[((xs.size : Int) - 1 + (k : Int) * (-1)).toNat]?) = ((List.range xs.size).map fun k => xs.size - 1 - k).filterMap (xs[·]?) := by
    rw [List.filterMap_map]
    congr 1
    funext k
    have : ((xs.size : Int) - 1 + (k : Int) * (-1)).toNat = xs.size - 1 - k := by omega
    rw [this]; rfl
  rw [e, PySem.W.krv_range, List.filterMap_reverse, PySem.W.krv_all]
theorem applied_rev {sl : Addr} {vl vu vs : Value} {n : Nat} {Q : Int × Int × Nat → Shared → Prop} (hs : s.heap.IsSliceOf sl vl vu vs) (pl : IsPart vl none) (pu : IsPart vu none) (ps : IsPart vs (some (-1)))
    (h : Q ((n : Int) - 1, -1, n) s) : wpAny (model prog w) A (Builtin.Slice.sliceApplied (.ref sl) (pure (n : Int))) Q E s := by
  obtain ⟨os, hos, hcs, hds⟩ := id hs
  unfold Builtin.Slice.sliceApplied Builtin.Slice.sliceFields
  refine wpAny_bind (wpAny_bind (wpAny_field hos hds (x := vl) rfl (wpAny_bind (wpAny_field hos hds (x := vu) rfl (wpAny_bind (wpAny_field hos hds (x := vs) rfl (wpAny_pure ?_)))))))
  refine wpAny_bind (HT.slicePart_ ps ?_)
  show wpAny (model prog w) A (if ((-1 : Int) == 0) = true then _ else _) _ E s
  rw [if_neg (by decide)]
  refine wpAny_bind (HT.slicePart_ pl (wpAny_bind (HT.slicePart_ pu (wpAny_bind (wpAny_pure ?_)))))
  show wpAny (model prog w) A (match Builtin.Slice.sliceAdjust none none (-1) (n : Int) with | (lo, hi) => pure (lo, (-1 : Int), Builtin.Slice.slicePlaces lo hi (-1))) _ E s
  rw [adj_rev]
  show wpAny (model prog w) A (pure ((n : Int) - 1, (-1 : Int), Builtin.Slice.slicePlaces ((n : Int) - 1) (-1) (-1))) _ E s
  rw [places_rev]
  exact wpAny_pure h
theorem item_rev {t sl : Addr} {items : Array Value} {vl vu vs : Value} {Q : Value → Shared → Prop} (ht : IsTup s.heap t items) (hs : s.heap.IsSliceOf sl vl vu vs) (pl : IsPart vl none) (pu : IsPart vu none) (ps : IsPart vs (some (-1)))
    (h : Q (.ref s.heap.objs.size) { s with heap := s.heap.push { cls := .type "tuple", data := .seq items.toList.reverse.toArray } }) (hz : items.size ≤ sizeLine) : wpAny (model prog w) A (getItem (.ref t) (.ref sl)) Q E s := by
  have fit : sizeOk (.seq items.toList.reverse.toArray) := by
    show items.toList.reverse.toArray.size ≤ sizeLine
    rw [List.size_toArray, List.length_reverse, Array.length_toList]; exact hz
  obtain ⟨os, hos, hcs, hds⟩ := id hs
  have ty : s.TypeIs (.ref sl) "slice" := ⟨os, hos, hcs⟩
  unfold getItem
  try with_reducible refine wpAny_holding ?_
  first | refine wpAny_bind (wpAny_pure ?_) | skip
  refine wpAny_bind (wpAny_sequenceKey (E := E) (s := s) ht.typeIs (by decide) ?_)
  refine wpAny_bind (wpAny_callSpecial?_slot (name := Str.ofString "__getitem__") ht.typeIs PyProof.Rows.slot_tuple_getitem (wpAny_call_entry PyProof.Rows.slot_tuple_getitem ht.typeIs entry_tuple_getitem ?_ (args_tuple_getitem _ _)))
  show wpAny (model prog w) _ (Builtin.Tuple.tupleItemsOf (.ref t) >>= _) _ _ s
  refine wpAny_bind (PyProof.Rows.tupleItemsOf_ ht ?_)
  refine wpAny_bind (wpAny_typeOf (s := s) ty ?_)
  rw [if_pos (by decide)]
  refine wpAny_bind (applied_rev hs pl pu ps ?_)
  have no : ¬ ((((items.size : Int) - 1) == 0 && (-1 : Int) == 1 && items.size == items.size) = true) := by
    rw [show ((-1 : Int) == 1) = false from by decide, Bool.and_false, Bool.false_and]; exact Bool.false_ne_true
  show wpAny (model prog w) _ (if (((items.size : Int) - 1) == 0 && (-1 : Int) == 1 && items.size == items.size) = true then _ else _) _ _ s
  rw [if_neg no, pick_rev]
  first
    | exact wpAny_bind (m := Builtin.Tuple.tupleExact _) (wpAny_newObj_type (wpAny_pure ⟨_, rfl, wpAny_pure h⟩) fit)
    | exact wpAny_bind (m := Builtin.Tuple.tupleExact _) (wpAny_newObj_type (wpAny_bind (wpAny_pure (wpAny_pure ⟨_, rfl, wpAny_pure h⟩))) fit)
    | exact wpAny_bind (wpAny_bind (m := Builtin.Tuple.tupleExact _) (wpAny_newObj_type (wpAny_pure (wpAny_pure ⟨_, rfl, wpAny_pure h⟩)) fit))
    | exact wpAny_bind (wpAny_bind (m := Builtin.Tuple.tupleExact _) (wpAny_newObj_type (wpAny_pure ⟨_, rfl, wpAny_pure h⟩) fit))
end
def tRev2 (K : PySem.W.Frag) (te : TE) : TE := fun σ H Q => te σ H fun x H1 => ∃ a xs, x = .ref a ∧ ((SqL K H1 a xs ∧ ∀ p, H1 p = none → Q (.ref p) (upd H1 p (.lst xs.reverse))) ∨ (SqT K H1 a xs ∧ ∀ p, H1 p = none → Q (.ref p) (upd H1 p (.tup xs.reverse))))
theorem pe_rev2 {X : Cx} {e : Expr} {te : TE} {k : Nat} {p1 p2 p3 pos : Pos} (he : PE X e te) : PE X (.Subscript e (.Slice none none (some (.UnaryOp .USub (.Constant (.int 1) k p1) p2)) p3) pos) (tRev2 X.K te) := by
  refine ⟨fun pins s σ H Q I h => ?_⟩
  refine Subscript_ (thn (he.run pins s σ H _ I h) fun v s1 ⟨x, H1, I1, r1, a, xs, ex, q⟩ => ?_)
  subst ex
  cases r1
  have one : PO X (some (.UnaryOp .USub (.Constant (.int 1) k p1) p2)) (tPart (tUn (rU fun i => .int (-i)) (tC (.int 1)))) := po_some (pe_un un_neg pe_int)
  refine wpAny_Slice (thn (po_none.run pins s1 σ H1 (fun o G => o = none ∧ G = H1) I1 ⟨rfl, rfl⟩) fun vl s2 ⟨l, G, I2, pl, el, eG⟩ => ?_)
  subst el eG
  refine thn (po_none.run pins s2 σ G (fun o G' => o = none ∧ G' = G) I2 ⟨rfl, rfl⟩) fun vu s3 ⟨u, G', I3, pu, eu, eG⟩ => ?_
  subst eu eG
  refine thn (one.run pins s3 σ G' (fun o G2 => o = some (-1) ∧ G2 = G') I3 ⟨1, rfl, -1, rfl, rfl, rfl⟩) fun vs s4 ⟨o, G2, I4, ps, eo, eG⟩ => ?_
  subst eo eG
  have I5 : Inv X pins σ G2 { s4 with heap := s4.heap.push { cls := .type "slice", data := .fields #[vl, vu, vs] } } := I4.kept (t' := s4.toks) fun b ob z => Heap.get?_push_of_some _ z
  show wpAny (model X.prog X.w) X.A (subscriptTail e (.Slice none none (some (.UnaryOp .USub (.Constant (.int 1) k p1) p2)) p3) (.ref a) (.ref s4.heap.objs.size)) (EP X pins σ Q) X.xe _
  rcases q with ⟨hx, q⟩ | ⟨hx, q⟩
  · obtain ⟨its, r, ht, hz⟩ := I5.list hx
    have hl := r.length
    refine PyProof.Rows.tail_any (ops := [.ref a, .ref s4.heap.objs.size]) ht.isList.typeIs (PySem.slot_list_getitem.lookup) ?_ (by with_unfolding_all rfl)
    refine wpAny_getItem_list_slice ht.isList (Heap.IsSliceOf.new _ vl vu vs) pl pu ps (by decide) ?_ (by rw [List.size_toArray]; omega)
    rw [PySem.W.krv_pick]
    refine ⟨.ref _, _, I5.laid (t' := s4.toks) (o := .lst xs.reverse) (fun b ob z => Heap.get?_push_of_some _ z) (Nat.le_refl _) ⟨?_, _, 0, r.reverse, Heap.get?_push_size _ rfl⟩, rfl, q _ (I5.hok.fresh (Nat.le_refl _))⟩
    rw [List.length_reverse]; exact hz
  · obtain ⟨its, r, ht, hz⟩ := I5.tuple hx
    have hl := r.length
    refine PyProof.Rows.tail_any (ops := [.ref a, .ref s4.heap.objs.size]) ht.typeIs (PyProof.Rows.slot_tuple_getitem.lookup) ?_ (by with_unfolding_all rfl)
    refine item_rev ht (Heap.IsSliceOf.new _ vl vu vs) pl pu ps ?_ (by rw [List.size_toArray]; omega)
    refine ⟨.ref _, _, I5.laid (t' := s4.toks) (o := .tup xs.reverse) (fun b ob z => Heap.get?_push_of_some _ z) (Nat.le_refl _) ⟨?_, its.reverse, r.reverse, IsTup.new _ _⟩, rfl, q _ (I5.hok.fresh (Nat.le_refl _))⟩
    rw [List.length_reverse]; exact hz
def eRev2 (f : FE) : FE := fun ρ h => (f ρ h).bind fun w h1 => match w with
  | .ref n => match rdL h1 n with
    | some ws => h1.al (.lst ws.reverse)
    | none => .no
  | .tup ws => .ok (.tup ws.reverse) h1
  | _ => .no
theorem se_rev2 {X : Cx} {B : Bx} {e : Expr} {f : FE} {k : Nat} {p1 p2 p3 pos : Pos} (hK : X.K = B.G.K) (he : SE X B e f) : SE X B (.Subscript e (.Slice none none (some (.UnaryOp .USub (.Constant (.int 1) k p1) p2)) p3) pos) (eRev2 f) :=
  pe_imp (pe_rev2 he) fun σ H Q ⟨m, h, ρ, s, o⟩ => ⟨m, h, ρ, s, (Out.bind s.rh o).mono fun v H1 ⟨w, m1, h1, r1, v1, q1, o1⟩ => by
    cases w <;> try exact o1.elim
    · rename_i ws
      obtain ⟨a, xs, rfl, s1, q⟩ := rw_tup q1
      exact ⟨a, xs, rfl, .inr ⟨by rw [hK]; exact s1, tup_ok r1 o1 (rws_rev q)⟩⟩
    · rename_i n
      obtain ⟨rfl, hn⟩ := rw_ref q1
      simp only at o1
      split at o1
      · rename_i ws e
        obtain ⟨xs, s1, q⟩ := r1.rd hn e
        exact ⟨_, xs, rfl, .inl ⟨by rw [hK]; exact s1, al_ok r1 o1 (.lst (rws_rev q))⟩⟩
      · exact o1.elim⟩
end EV
namespace EV
open PySem PySem.Spec PyProof.Rows L2
section
variable {X : Cx} {B : Bx} {a b : Expr} {fa fb : FE} {pos : Pos}
end
end EV
namespace EV
open PySem PySem.Spec PyProof.Rows L2
section
variable {X : Cx} {B : Bx} {e : Expr} {es : List Expr} {fs : FA} {f : FE} {p pos apos : Pos}
end
end EV
namespace EV
open PySem PySem.Spec PyProof.Rows L2
section
variable {G : GC} {m : Nat → Addr} {n : Nat} {h : Hpe} {H : Hp}
theorem RH.ob (r : RH G m h H) {i c : Nat} {fs : List (Str × W)} (hi : i < h.nx) (e : h.get i = some (.ob c fs)) : ∃ C dx gs, H (m i) = some (.ins C dx gs) ∧ G.cc c = some C ∧ fs.map (·.1) = gs.map (·.1) ∧ RWs G m h.nx H (fs.map (·.2)) (gs.map (·.2)) := by
  obtain ⟨o, ho, q1, q2, q3⟩ := r.obj i hi
  rw [e] at q1; cases q1
  cases q3 with
  | ob a b c => exact ⟨_, _, _, q2, a, b, c⟩
end
section
variable {X : Cx} {B : Bx} {a b o e value : Expr} {es : List Expr} {fo fv f : FE} {fs : FA} {pos p apos tpos : Pos} {x name : Str} {cs : List Nat} {c n k : Nat} {ps : List Str}
structure DmE (P : Program) (w : World) (K : PySem.W.Frag) (mg : Str → Option Value) (base : Heap) (G : GC) (cl : Cls) (c : Nat) (name : Str) (ps : List Str) (k : Nat) (g : List W → Hpe → Res W) : Prop where
  ex : ∃ C f fd, G.cc c = some C ∧ L2.Cls K C ∧ Meth K C name f ∧ FnE P w K mg base k f fd ps G cl g ∧ Binds K fd ps []
structure MkE (P : Program) (w : World) (K : PySem.W.Frag) (mg : Str → Option Value) (base : Heap) (G : GC) (cl : Cls) (x : Str) (c : Nat) (ps : List Str) (k : Nat) (g : List W → Hpe → Res W) : Prop where
  ex : ∃ C f fd, G.cc c = some C ∧ Mk K C f ∧ mg x = some (.ref C) ∧ FnE P w K mg base k f fd ps G cl g ∧ Binds K fd ps []
end
end EV
namespace EV
open PySem PySem.Spec PyProof.Rows L2
def lockW (h : Hpe) (n : Nat) : Option (List (Key × W) × Hpe) := match h.get n with
  | some (.dk kvs) => some (kvs, { h.set n (.fd kvs) with lk := n :: h.lk })
  | some (.fd kvs) => some (kvs, h)
  | _ => none
section
variable {G : GC} {m m' : Nat → Addr} {h h' : Hpe} {H H' : Hp}
theorem RH.relk (r : RH G m h H) (l : List Nat) : RH G m { h with lk := l } H := ⟨r.sz, r.inj, r.obj, r.tab, r.ltab⟩
theorem lock_ok {i : Nat} {kvs : List (Key × W)} (r : RH G m h H) (hi : i < h.nx) (e : lockW h i = some (kvs, h')) :
    (∃ kus, H (m i) = some (.dK kus) ∧ ∀ od, RH G m h' (upd H (m i) (.frz od (.dK kus))) ∧ Mv m h.nx H m h'.nx (upd H (m i) (.frz od (.dK kus))) ∧ i < h'.nx ∧ kvs.map (·.1) = kus.map (·.1) ∧ RWs G m h'.nx (upd H (m i) (.frz od (.dK kus))) (kvs.map (·.2)) (kus.map (·.2))) ∨
    (h' = h ∧ ∃ od kus, H (m i) = some (.frz od (.dK kus)) ∧ kvs.map (·.1) = kus.map (·.1) ∧ RWs G m h.nx H (kvs.map (·.2)) (kus.map (·.2))) := by
  obtain ⟨o, ho, q1, q2, q3⟩ := r.obj i hi
  unfold lockW at e
  rw [q1] at e
  cases q3 with
  | dk a b =>
    cases e
    refine .inl ⟨_, q2, fun od => ?_⟩
    obtain ⟨r2, v2⟩ := r.store hi (o := .fd kvs) (ho := .frz od (.dK _)) (.fd a b) (fun ob u z => by rw [q2] at z; cases z)
    exact ⟨r2.relk _, v2, hi, a, b.mono (fun _ _ => rfl) (Nat.le_refl _) (v2.tupk r)⟩
  | fd a b =>
    cases e
    exact .inr ⟨rfl, _, _, q2, a, b⟩
  | _ => cases e
def srcQ (kvs : List (Key × W)) (f : Key × W → W) : Src := fun _ i => match kvs[i]? with
  | some p => some (some (f p))
  | none => some none
theorem kv_at {n : Nat} : ∀ {kvs : List (Key × W)} {kus : List (Key × V)} {j : Nat} {p : Key × W}, kvs.map (·.1) = kus.map (·.1) → RWs G m n H (kvs.map (·.2)) (kus.map (·.2)) → kvs[j]? = some p → ∃ u, kus[j]? = some (p.1, u) ∧ RW G m n H p.2 u
  | [], _, _, _, _, _, e => by simp at e
  | _ :: _, [], _, _, a, _, _ => by cases a
  | q :: kvs, (k, u) :: kus, 0, p, a, r, e => by
    have a1 : q.1 = k := (List.cons.inj a).1
    have e1 : q = p := by simpa using e
    subst e1; subst a1
    cases r with
    | cons r1 _ => exact ⟨u, rfl, r1⟩
  | q :: kvs, (k, u) :: kus, j + 1, p, a, r, e => by
    cases r with
    | cons _ r2 =>
      obtain ⟨v, e1, e2⟩ := kv_at (j := j) (List.cons.inj a).2 r2 (by simpa using e)
      exact ⟨v, by simpa using e1, e2⟩
theorem srcQ_end {kvs : List (Key × W)} {kus : List (Key × V)} {f : Key × W → W} {j : Nat} (a : kvs.map (·.1) = kus.map (·.1)) (e : srcQ kvs f h j = some none) : kus.length ≤ j := by
  unfold srcQ at e
  split at e
  · cases e
  · rename_i z
    have l := congrArg List.length a
    simp only [List.length_map] at l
    rw [← l]
    exact List.getElem?_eq_none_iff.mp z
theorem srcQ_at {kvs : List (Key × W)} {f : Key × W → W} {j : Nat} {w : W} (e : srcQ kvs f h j = some (some w)) : ∃ p, kvs[j]? = some p ∧ w = f p := by
  unfold srcQ at e
  split at e
  · rename_i p z
    cases e
    exact ⟨p, z, rfl⟩
  · cases e
theorem lt_of_at {α : Type} {xs : List α} {j : Nat} {x : α} (e : xs[j]? = some x) : j < xs.length := (List.getElem?_eq_some_iff.mp e).1
variable {i : Nat} {od : Obj} {kvs : List (Key × W)} {kus : List (Key × V)}
theorem its_dkeys (hi : i < h.nx) (eH : H (m i) = some (.frz od (.dK kus))) (a : kvs.map (·.1) = kus.map (·.1)) (r : RWs G m h.nx H (kvs.map (·.2)) (kus.map (·.2))) : ItS G m h.nx H (srcQ kvs fun p => kW p.1) (Itk (m i) od kus) := by
  intro m' h' H' j rh old le tk kf
  have e' := kf i hi _ _ eH
  have r' := r.mono old le tk
  refine ⟨fun e => ⟨e', srcQ_end a e⟩, fun w e => ?_⟩
  obtain ⟨p, ep, rfl⟩ := srcQ_at e
  obtain ⟨u, eu, ru⟩ := kv_at a r' ep
  refine ⟨⟨e', lt_of_at eu⟩, fun x H'' ⟨e1, k, v, e2, e3⟩ => ?_⟩
  subst e1; subst e3
  rw [eu] at e2; cases e2
  exact ⟨rh, Mv.refl, kW_rw _⟩
end
section
variable {X : Cx} {B : Bx} {a b o e tg : Expr} {fe f : FE} {pos p apos cpos tpos : Pos} {elts : List Expr} {kk : Nat}
def iV3 (f : FE) : FI := fun ρ h => (f ρ h).bind fun w h1 => match w with
  | .tup ws => .ok (srcT ws) h1
  | .ref n => match lockW h1 n with
    | some (kvs, h2) => .ok (srcQ kvs fun p => kW p.1) h2
    | none => match rdL h1 n with
      | some _ => .ok (srcL n) h1
      | none => .no
  | _ => .no
theorem pi_any {l : Expr} {tl : TE} (hl : PE X l tl) : PI X tg l (fun σ H R => tl σ H fun x H1 => ∃ a, x = .ref a ∧ (((∃ xs, SqL X.K H1 a xs) ∧ R (Itl X.K a) H1) ∨ ((∃ xs, SqT X.K H1 a xs) ∧ R (Itt X.K a) H1) ∨ (∃ od kus, H1 a = some (.frz od (.dK kus)) ∧ R (Itk a od kus) H1) ∨
    ∃ kus, H1 a = some (.dK kus) ∧ ∀ od, R (Itk a od kus) (upd H1 a (.frz od (.dK kus))))) := by
  refine ⟨fun pins s σ H R I h => ?_⟩
  refine thn (hl.run pins s σ H _ I h) fun v s1 ⟨x, H1, I1, r1, q1⟩ => ?_
  obtain ⟨a, e, q⟩ := q1
  subst e
  cases r1
  have dk : ∀ {H2 : Hp} {od : Obj} {kus : List (Key × V)}, Inv X pins σ H2 s1 → H2 a = some (.frz od (.dK kus)) → R (Itk a od kus) H2 → wpAny (model X.prog X.w) X.A (pyIter (.ref a)) (PIE X pins σ tg R) X.xe s1 := fun I2 hd q => by
    obtain ⟨hs, hgd, hx, es, ep, vs, hdt, hsz, kv, hm⟩ := I2.frzK hd
    exact iter_keys hs hgd hx hdt (pi_one I2 _ (turn_keys s1.heap.objs.size hdt) ⟨_, Heap.get?_push_size _ rfl, rfl, by rw [hsz]; rfl⟩ q)
  rcases q with ⟨⟨xs, hq⟩, q⟩ | ⟨⟨xs, hq⟩, q⟩ | ⟨od, kus, hq, q⟩ | ⟨kus, hq, q⟩
  · obtain ⟨its, rv, p, hz⟩ := I1.list hq
    refine wpAny_pyIter_list p.isList ?_
    refine ⟨s1.heap.objs.size, [s1.heap.objs.size], _, _, H1, rfl, I1.kept (t' := s1.toks) fun b o e => Heap.get?_push_of_some _ e, turn_list a _, ⟨_, Heap.get?_push_size _ rfl, rfl, rfl⟩, fun b hb => ?_, q⟩
    have e : b = s1.heap.objs.size := by simpa using hb
    subst e
    exact I1.fpOk (Nat.le_refl _) (I1.hok.fresh (Nat.le_refl _))
  · obtain ⟨its, rv, p, hz⟩ := I1.tuple hq
    refine wpAny_pyIter_tuple (show s1.heap.IsTuple a its.toArray from p) ?_
    refine ⟨s1.heap.objs.size, [s1.heap.objs.size], _, _, H1, rfl, I1.kept (t' := s1.toks) fun b o e => Heap.get?_push_of_some _ e, turn_tuple a _, ⟨_, Heap.get?_push_size _ rfl, rfl, rfl⟩, fun b hb => ?_, q⟩
    have e : b = s1.heap.objs.size := by simpa using hb
    subst e
    exact I1.fpOk (Nat.le_refl _) (I1.hok.fresh (Nat.le_refl _))
  · exact dk I1 hq q
  · obtain ⟨od, I2⟩ := I1.lock hq trivial
    exact dk I2 upd_same (q od)
theorem si_v3 (hK : X.K = B.G.K) (h : SE X B e f) : SI X B tg e (iV3 f) :=
  pi_imp (pi_any h) fun σ H R ⟨m, h, ρ, s, o⟩ => ⟨m, h, ρ, s, (Out.bind s.rh o).mono fun v H1 ⟨w, m1, h1, r1, v1, q1, o1⟩ => by
    cases w <;> try exact o1.elim
    · rename_i ws
      obtain ⟨a, xs, rfl, sq, q⟩ := rw_tup q1
      exact ⟨a, rfl, .inr (.inl ⟨⟨xs, by rw [hK]; exact sq⟩, by rw [hK]; exact o1 m1 H1 _ r1 Mv.refl (its_tup sq q)⟩)⟩
    · rename_i n
      obtain ⟨rfl, hn⟩ := rw_ref q1
      dsimp only at o1
      cases c : lockW h1 n with
      | some t =>
        obtain ⟨kvs, h2⟩ := t
        rw [c] at o1
        rcases lock_ok r1 hn c with ⟨kus, eH, k⟩ | ⟨rfl, od, kus, eH, k1, k2⟩
        · refine ⟨_, rfl, .inr (.inr (.inr ⟨kus, eH, fun od => ?_⟩))⟩
          obtain ⟨r2, v2, hn2, k1, k2⟩ := k od
          exact o1 m1 _ _ r2 v2 (its_dkeys hn2 upd_same k1 k2)
        · exact ⟨_, rfl, .inr (.inr (.inl ⟨od, kus, eH, o1 m1 _ _ r1 Mv.refl (its_dkeys hn eH k1 k2)⟩))⟩
      | none =>
        rw [c] at o1
        dsimp only at o1
        split at o1
        · rename_i ws ew
          obtain ⟨xs, sq, q⟩ := r1.rd hn ew
          exact ⟨_, rfl, .inl ⟨⟨xs, by rw [hK]; exact sq⟩, by rw [hK]; exact o1 m1 H1 _ r1 Mv.refl (its_lst hn)⟩⟩
        · exact o1.elim⟩
end
def unlk (h0 : Hpe) : List Nat → Hpe → Hpe
  | [], h => h
  | n :: r, h => unlk h0 r (match h0.get n, h.get n with
    | some (.dk _), some (.fd kvs) => bif Nat.blt n h0.nx then h.set n (.dk kvs) else h
    | some (.dn _), some (.fn kvs) => bif Nat.blt n h0.nx then h.set n (.dn kvs) else h
    | _, _ => h)
def unl (h0 h : Hpe) : Hpe := match h0.lk with
  | [] => { unlk h0 (h.lk.take (h.lk.length - h0.lk.length)) h with lk := [] }
  | n :: r => { unlk h0 (h.lk.take (h.lk.length - h0.lk.length)) h with lk := n :: r }
theorem unl_eq (h0 h : Hpe) : unl h0 h = { unlk h0 (h.lk.take (h.lk.length - h0.lk.length)) h with lk := h0.lk } := by
  unfold unl
  split <;> rename_i e <;> rw [e]
def sUn (f : FS) : FS := fun ρ h => match f ρ h with
  | .nx ρ' h' => .nx ρ' (unl h h')
  | .rt w h' => .rt w (unl h h')
  | r => r
def Ul (X : Cx) (H H2 : Hp) : Prop := ∀ pins σ s, Inv X pins σ H s → Inv X pins σ H2 s
section
variable {G : GC} {m m' : Nat → Addr} {h h' : Hpe} {H H' : Hp}
theorem RH.unlock (r : RH G m h H) {i : Nat} (hi : i < h.nx) {kvs : List (Key × W)} (e : h.get i = some (.fd kvs)) :
    ∃ od kus, H (m i) = some (.frz od (.dK kus)) ∧ TupK H (upd H (m i) (.dK kus)) ∧ RH G m (h.set i (.dk kvs)) (upd H (m i) (.dK kus)) := by
  obtain ⟨o0, ho0, e0, eH, r0⟩ := r.obj i hi
  rw [e] at e0; cases e0
  cases r0 with
  | @fd od _ kus a b =>
    have tk : TupK H (upd H (m i) (.dK kus)) := fun p xs q => by
      rcases q with q | ⟨ob, q⟩
      · exact .inl (by rw [upd_ne (fun z : p = m i => by rw [z, eH] at q; cases q)]; exact q)
      · exact .inr ⟨ob, by rw [upd_ne (fun z : p = m i => by rw [z, eH] at q; cases q)]; exact q⟩
    refine ⟨od, kus, eH, tk, r.sz, r.inj, fun j hj => ?_, fun P hP => ?_, fun P hP => ?_⟩
    · by_cases c : j = i
      · subst c
        have hsz := r.sz
        exact ⟨.dk kvs, .dK kus, put_same 41 h.t j (.dk kvs) (by omega), upd_same, .dk a (b.mono (fun _ _ => rfl) (Nat.le_refl _) tk)⟩
      · obtain ⟨o', ho', q1, q2, q3⟩ := r.obj j hj
        refine ⟨o', ho', (put_ne 41 h.t i j (.dk kvs) c).trans q1, ?_, q3.mono (fun _ _ => rfl) (Nat.le_refl _) tk⟩
        rw [upd_ne (fun z : m j = m i => c (r.inj j i hj hi z))]; exact q2
    · obtain ⟨ps, e, t⟩ := r.tab P hP
      exact ⟨ps, by rw [upd_ne (fun z : P = m i => by rw [z, eH] at e; cases e)]; exact e, t⟩
    · exact (r.ltab P hP).keep (fun ps e => by rw [upd_ne (fun z : P = m i => by rw [z, eH] at e; cases e)]; exact e) fun b q e nb => ⟨by rw [upd_ne (fun z : b = m i => nb i hi z.symm)]; exact e, nb⟩
theorem RH.unlockN (r : RH G m h H) {i : Nat} (hi : i < h.nx) {kvs : List (W × W)} (e : h.get i = some (.fn kvs)) :
    ∃ od xs, H (m i) = some (.frz od (dnO G.prog G.wo (m i) xs)) ∧ TupK H (upd H (m i) (dnO G.prog G.wo (m i) xs)) ∧ RH G m (h.set i (.dn kvs)) (upd H (m i) (dnO G.prog G.wo (m i) xs)) := by
  obtain ⟨o0, ho0, e0, eH, r0⟩ := r.obj i hi
  rw [e] at e0; cases e0
  cases r0 with
  | @fn od _ xs a b c d =>
    have tk : TupK H (upd H (m i) (dnO G.prog G.wo (m i) xs)) := fun p ys q => by
      rcases q with q | ⟨ob, q⟩
      · exact .inl (by rw [upd_ne (fun z : p = m i => by rw [z, eH] at q; cases q)]; exact q)
      · refine .inr ⟨ob, ?_⟩
        rw [upd_ne (fun z : p = m i => by
          rw [z, eH] at q
          have q' : HO.frz od (HO.ext (DnP G.prog G.wo (m i) xs)) = HO.frz ob (.tup ys) := Option.some.inj q
          cases q')]
        exact q
    refine ⟨od, xs, eH, tk, r.sz, r.inj, fun j hj => ?_, fun P hP => ?_, fun P hP => ?_⟩
    · by_cases cc : j = i
      · subst cc
        have hsz := r.sz
        exact ⟨.dn kvs, _, put_same 41 h.t j (.dn kvs) (by omega), upd_same, .dn a b (c.mono (fun _ _ => rfl) (Nat.le_refl _) tk) (d.mono (fun _ _ => rfl) (Nat.le_refl _) tk)⟩
      · obtain ⟨o', ho', q1, q2, q3⟩ := r.obj j hj
        refine ⟨o', ho', (put_ne 41 h.t i j (.dn kvs) cc).trans q1, ?_, q3.mono (fun _ _ => rfl) (Nat.le_refl _) tk⟩
        rw [upd_ne (fun z : m j = m i => cc (r.inj j i hj hi z))]; exact q2
    · obtain ⟨ps, e, t⟩ := r.tab P hP
      exact ⟨ps, by rw [upd_ne (fun z : P = m i => by rw [z, eH] at e; cases e)]; exact e, t⟩
    · exact (r.ltab P hP).keep (fun ps e => by rw [upd_ne (fun z : P = m i => by rw [z, eH] at e; cases e)]; exact e) fun b q e nb => ⟨by rw [upd_ne (fun z : b = m i => nb i hi z.symm)]; exact e, nb⟩
theorem unlk_ok {X : Cx} {pins : List (Addr × Obj)} {σ : L2.St} {s : Shared} (I : Inv X pins σ H s) (rh : RH G m h H) : ∀ (l : List Nat) (h' : Hpe) (H' : Hp), RH G m' h' H' → Mv m h.nx H m' h'.nx H' →
    ∃ H2, Ul X H' H2 ∧ RH G m' (unlk h l h') H2 ∧ (unlk h l h').nx = h'.nx ∧ Mv m h.nx H m' h'.nx H2 ∧ TupK H' H2
  | [], h', H', r', v => ⟨H', fun _ _ _ z => z, r', rfl, v, .refl⟩
  | n :: l, h', H', r', v => by
    have stay : ∃ H2, Ul X H' H2 ∧ RH G m' (unlk h l h') H2 ∧ (unlk h l h').nx = h'.nx ∧ Mv m h.nx H m' h'.nx H2 ∧ TupK H' H2 := unlk_ok I rh l h' H' r' v
    unfold unlk
    split
    · rename_i kv0 kvs e0 e1
      cases c : Nat.blt n h.nx with
      | false => exact stay
      | true =>
        have hn : n < h.nx := Nat.le_of_ble_eq_true c
        have hn' : n < h'.nx := Nat.lt_of_lt_of_le hn v.le
        obtain ⟨od, kus, eH, tk, r2⟩ := r'.unlock hn' e1
        obtain ⟨kus0, eH0, _⟩ := rh.dk hn (show rdK h n = some kv0 by unfold rdK; rw [e0])
        have em : m' n = m n := v.old n hn
        have u1 : Ul X H' (upd H' (m' n) (.dK kus)) := fun pins' σ' s' I' => I'.unlock eH (by rw [em]; exact I.nofrz eH0 trivial)
        have v2 : Mv m h.nx H m' h'.nx (upd H' (m' n) (.dK kus)) := by
          refine ⟨v.le, v.old, v.new, fun b o e hb => ?_, fun j hj ob u e => ?_⟩
          · rw [upd_ne (fun z : b = m' n => hb n hn (by rw [z, em]))]; exact v.kp b o e hb
          · rw [upd_ne (fun z : m j = m' n => by rw [z, em, eH0] at e; cases e)]; exact v.kf j hj ob u e
        obtain ⟨H2, u2, r3, e3, v3, t3⟩ := unlk_ok I rh l (h'.set n (.dk kvs)) _ r2 v2
        exact ⟨H2, fun pins' σ' s' I' => u2 _ _ _ (u1 _ _ _ I'), r3, e3, v3, TupK.trans tk t3⟩
    · rename_i kv0 kvs e0 e1
      cases c : Nat.blt n h.nx with
      | false => exact stay
      | true =>
        have hn : n < h.nx := Nat.le_of_ble_eq_true c
        have hn' : n < h'.nx := Nat.lt_of_lt_of_le hn v.le
        obtain ⟨od, xs, eH, tk, r2⟩ := r'.unlockN hn' e1
        obtain ⟨o0, ho0, eo, eH0, ro0⟩ := rh.obj n hn
        rw [e0] at eo; cases eo
        obtain ⟨xs0, eH1⟩ : ∃ xs0, H (m n) = some (dnO G.prog G.wo (m n) xs0) := by
          cases ro0 with
          | dn _ _ _ _ => exact ⟨_, eH0⟩
        have em : m' n = m n := v.old n hn
        have u1 : Ul X H' (upd H' (m' n) (dnO G.prog G.wo (m' n) xs)) := fun pins' σ' s' I' => I'.unlock eH (by rw [em]; exact I.nofrz eH1 trivial)
        have v2 : Mv m h.nx H m' h'.nx (upd H' (m' n) (dnO G.prog G.wo (m' n) xs)) := by
          refine ⟨v.le, v.old, v.new, fun b o e hb => ?_, fun j hj ob u e => ?_⟩
          · rw [upd_ne (fun z : b = m' n => hb n hn (by rw [z, em]))]; exact v.kp b o e hb
          · rw [upd_ne (fun z : m j = m' n => by rw [z, em, eH1] at e; cases (show HO.ext _ = HO.frz _ _ from Option.some.inj e))]; exact v.kf j hj ob u e
        obtain ⟨H2, u2, r3, e3, v3, t3⟩ := unlk_ok I rh l (h'.set n (.dn kvs)) _ r2 v2
        exact ⟨H2, fun pins' σ' s' I' => u2 _ _ _ (u1 _ _ _ I'), r3, e3, v3, TupK.trans tk t3⟩
    · exact stay
end
theorem ss_un {X : Cx} {B : Bx} {st : Stmt} {f : FS} (hs : SSt X B st f) : SSt X B st (sUn f) := by
  refine ⟨fun pins s σ H D I ⟨m, h, ρ, ss, o⟩ => ?_⟩
  refine wpAny_mono (hs.run pins s σ H { D with nx := fun σ' H' => ∃ H2, Ul X H' H2 ∧ D.nx σ' H2, rt := fun v H' => ∃ H2, Ul X H' H2 ∧ D.rt v H2 } I ⟨m, h, ρ, ss, ?_⟩) (fun fl s' q => ?_) fun _ _ z => z
  · simp only [sUn, unl_eq] at o
    cases c : f ρ h with
    | nx ρ' h' =>
      rw [c] at o
      intro m' H' σ' s' v
      obtain ⟨H2, u, r2, e2, v2, tk⟩ := unlk_ok I ss.rh (h'.lk.take (h'.lk.length - h.lk.length)) h' H' s'.rh v
      have en := e2
      refine ⟨H2, u, o m' H2 σ' ⟨r2.relk _, s'.len, fun i w e => ?_⟩ (by rw [en]; exact v2)⟩
      obtain ⟨x, e1, r⟩ := s'.sl i w e
      exact ⟨x, e1, by rw [en]; exact r.mono (fun _ _ => rfl) (Nat.le_refl _) tk⟩
    | rt w h' =>
      rw [c] at o
      intro m' H' x r v q
      obtain ⟨H2, u, r2, e2, v2, tk⟩ := unlk_ok I ss.rh (h'.lk.take (h'.lk.length - h.lk.length)) h' H' r v
      have en := e2
      exact ⟨H2, u, o m' H2 x (r2.relk _) (by rw [en]; exact v2) (by rw [en]; exact q.mono (fun _ _ => rfl) (Nat.le_refl _) tk)⟩
    | bk _ _ => rw [c] at o; exact o
    | ct _ _ => rw [c] at o; exact o
    | ex _ _ _ => rw [c] at o; exact o
    | no => rw [c] at o; exact o
  · cases fl with
    | next => obtain ⟨σ', H', I', H2, u, q⟩ := q; exact ⟨σ', H2, u _ _ _ I', q⟩
    | brk => exact q
    | cont => exact q
    | ret w => obtain ⟨x, σ', H', I', r, H2, u, q⟩ := q; exact ⟨x, σ', H2, u _ _ _ I', r, q⟩
end EV
namespace EV
open PySem PySem.Spec PyProof.Rows L2
section
variable {prog : Program} {w : World} {A : Around} {E : Value → Shared → Prop} {s : Shared} {a kS : Addr} {vs : List Value} {kz : List Int} {keys : Array Value} {e e1 : Nat} {P : PySem.Fin → Shared → Prop} {st : SortSt} {f : Value}
end
end EV
namespace EV
open PySem PySem.Spec PyProof.Rows L2
section
variable {X : Cx} {pins : List (Addr × Obj)} {σ : L2.St} {H : Hp} {s : Shared}
variable {e : Expr} {t : TE} {pos p p2 kpos : Pos}
end
end EV
namespace EV
open PySem PySem.Spec PyProof.Rows L2
section
variable {G : GC} {m : Nat → Addr} {n : Nat} {h : Hpe} {H : Hp}
end
section
variable {X : Cx} {B : Bx} {e : Expr} {fe : FE} {pos p p2 kpos : Pos}
end
end EV
namespace EV
open PySem PySem.Spec PyProof.Rows L2
end EV
namespace EV
open PySem PySem.Spec PyProof.Rows L2
def iOr (c : Rho → Hpe → Bool) (f1 f2 : FI) : FI := fun ρ h => bif c ρ h then f1 ρ h else f2 ρ h
theorem si_or {X : Cx} {B : Bx} {tg e : Expr} {f1 f2 : FI} (c : Rho → Hpe → Bool) (h1 : SI X B tg e f1) (h2 : SI X B tg e f2) : SI X B tg e (iOr c f1 f2) :=
  ⟨fun pins s σ H R I ⟨m, h, ρ, ss, o⟩ => by
    unfold iOr at o
    cases q : c ρ h with
    | true => rw [q] at o; exact h1.run pins s σ H R I ⟨m, h, ρ, ss, o⟩
    | false => rw [q] at o; exact h2.run pins s σ H R I ⟨m, h, ρ, ss, o⟩⟩
def tupR (fs : FA) : Rho → Hpe → Bool := fun ρ h => match fs ρ h with
  | .ok (.tup _ :: _) _ => true
  | _ => false
end EV
namespace EV
open PySem PySem.Spec PyProof.Rows L2
section
variable {X : Cx} {B : Bx} {e : Expr} {f : FE} {pos p2 : Pos} {lo hi st : Option Expr} {fl fh fs : FO}
end
end EV
namespace EV
open PySem PySem.Spec PyProof.Rows L2
section
variable {prog : Program} {w : World} {A : Around} {s : Shared} {I S : Addr} {fp wr : List Addr} {n : Nat} {P : Nat → Value → Prop} {St : Nat → Heap → Prop} {kf : Nat → Nat} {R : Result → Shared → Prop} {d : Value} {J : Heap → Prop}
end
end EV
namespace EV
open PySem PySem.Spec PyProof.Rows L2
section
variable {X : Cx} {pins : List (Addr × Obj)} {σ : L2.St} {H : Hp} {s : Shared}
variable {e de : Expr} {t td : TE} {pos p p2 kp1 kp2 : Pos}
end
end EV
namespace EV
open PySem PySem.Spec PyProof.Rows L2
section
variable {X : Cx} {o de : Expr} {p p2 pos apos mpos kp1 kp2 : Pos} {td t2 : TE}
end
end EV
namespace EV
open PySem PySem.Spec PyProof.Rows L2
section
variable {X : Cx} {o de : Expr} {p p2 pos apos mpos kp1 kp2 : Pos} {td t2 : TE}
end
end EV
namespace EV
open PySem PySem.Spec PyProof.Rows L2
section
variable {X : Cx} {B : Bx} {o de : Expr} {fe fd : FE} {p p2 pos apos mpos kp1 kp2 : Pos}
end
end EV
namespace EV
open PySem PySem.Spec PyProof.Rows L2 RT
section
variable {prog : Program} {w : World} {A : Around} {s : Shared}
end
end EV
namespace EV
open PySem PySem.Spec PyProof.Rows L2 RT
section
variable {X : Cx} {e : Expr} {te : TE} {p p2 pos pos2 : Pos}
end
end EV
namespace EV
open PySem PySem.Spec PyProof.Rows L2
section
variable {X : Cx}
end
end EV
namespace EV
open PySem PySem.Spec PyProof.Rows L2
section
variable {X : Cx} {B : Bx} {e : Expr} {fs : FA} {pos p : Pos}
end
end EV
namespace EV
open PySem PySem.Spec PyProof.Rows L2
section
variable {G : GC} {m : Nat → Addr} {n : Nat} {H : Hp}
end
section
variable {X : Cx} {G : GC} {pins : List (Addr × Obj)} {σ : L2.St} {H : Hp} {s : Shared} {m : Nat → Addr} {h hE : Hpe} {a : Addr} {ws caps : List W} {vs : List V} {zs : List Int} {f : Value} {Q : VK} {g : List W → Hpe → Res W}
end
end EV
namespace EV
open PySem PySem.Spec PyProof.Rows L2
structure SLv (X : Cx) (B : Bx) (e : Expr) (fl : Rho → Option W) : Prop where
  run : ∀ (pins : List (Addr × Obj)) (s : Shared) (σ : L2.St) (H : Hp) (m : Nat → Addr) (h : Hpe) (ρ : Rho) (w : W) (K : Value → Shared → Prop), Inv X pins σ H s → SS B.G B.cf m h ρ σ H → fl ρ = some w →
    (∀ (pins' : List (Addr × Obj)) (H' : Hp) (s' : Shared) (u : Value) (v : V), (∀ p ∈ pins, p ∈ pins') → Inv X pins' σ H' s' → RH B.G m h H' → Mv m h.nx H m h.nx H' → Kt B.G H H' → RelV v u → RM X B σ pins' m h.nx H' w v → K u s') →
    wpAny (model X.prog X.w) X.A (eval e X.env) K X.xe s
section
variable {X : Cx} {B : Bx} {lpos : Pos} {k : Nat}
theorem Room.two {lv : Nat} {A : Around} (r : Room (lv + 1) A) : Room lv A.in1.in1 := ⟨r.hd, by have := r.dp; show A.depth + 3 * lv + 5 < _; omega, by have := r.un; show A.units + 1 + 1 + 16 * lv + 200 < _; omega⟩
variable {lv : Nat} {T : Nat → List W → Hpe → Res W} {pins : List (Addr × Obj)} {σ : L2.St} {H : Hp} {m : Nat → Addr} {h : Hpe} {caps : List W} {v : V}
end
end EV
set_option maxHeartbeats 2000000
namespace EV
open PySem PySem.Spec PyProof.Rows L2
noncomputable def noRef (w : W) : Bool :=
  W.rec (motive_1 := fun _ => Bool) (motive_2 := fun _ => Bool) true (fun _ => true) (fun _ => true) (fun _ => true) (fun _ ih => ih) (fun _ => false) (fun _ => true) (fun _ _ _ => false) true (fun _ _ a b => cond a b false) w
noncomputable def noRefs (ws : List W) : Bool :=
  W.rec_1 (motive_1 := fun _ => Bool) (motive_2 := fun _ => Bool) true (fun _ => true) (fun _ => true) (fun _ => true) (fun _ ih => ih) (fun _ => false) (fun _ => true) (fun _ _ _ => false) true (fun _ _ a b => cond a b false) ws
theorem noRefs_c {w : W} {ws : List W} : noRefs (w :: ws) = cond (noRef w) (noRefs ws) false := rfl
theorem noRef_t {ws : List W} : noRef (.tup ws) = noRefs ws := rfl
section
variable {G : GC} {cf : CF} {m m' : Nat → Addr} {n n' : Nat} {H H' : Hp} {h h' : Hpe}
theorem RW.free {w : W} {v : V} (r : RW G m n H w v) : noRef w = true → RW G m' n' H w v :=
  RW.rec (motive_1 := fun w v _ => noRef w = true → RW G m' n' H w v) (motive_2 := fun ws vs _ => noRefs ws = true → RWs G m' n' H ws vs) (fun _ => .non) (fun b _ => .bl b) (fun i _ => .int i) (fun x _ => .str x) (fun a _ ih e => .tup a (ih e))
    (fun i hi e => by cases e) (fun e _ => .df e) (fun _ => .nil) (fun {w ws v vs} _ _ a b e => by
      rw [noRefs_c] at e
      cases c : noRef w with
      | false => rw [c] at e; cases e
      | true => rw [c] at e; exact .cons (a c) (b e)) r
theorem RWs.free : ∀ {ws : List W} {vs : List V}, RWs G m n H ws vs → noRefs ws = true → RWs G m' n' H ws vs
  | _, _, .nil, _ => .nil
  | w :: _, _, .cons a b, e => by
    rw [noRefs_c] at e
    cases c : noRef w with
    | false => rw [c] at e; cases e
    | true => rw [c] at e; exact .cons (a.free c) (b.free e)
theorem RCs.free : ∀ {ws : List W} {vs : List V}, RCs G cf m n H ws vs → noRefs ws = true → RCs G cf m' n' H ws vs
  | _, _, .nil, _ => .nil
  | w :: _, _, .cons a b, e => by
    rw [noRefs_c] at e
    cases c : noRef w with
    | false => rw [c] at e; cases e
    | true =>
      rw [c] at e
      refine .cons ?_ (b.free e)
      cases a with
      | rw a => exact .rw (a.free c)
      | clo _ _ => cases c
theorem heap_at (c : Addr) (o : Obj) (k : ∀ (a : Value) (b : Option Addr) (d : Array (Option Value)), o ≠ ⟨a, b, .freed, d⟩) : (⟨Array.replicate (c + 1) o, {}⟩ : Heap).get? c = some o := by
  unfold Heap.get?
  have e : (Array.replicate (c + 1) o)[c]? = some o := by rw [Array.getElem?_replicate]; exact if_pos (Nat.lt_succ_self c)
  simp only [e]
  obtain ⟨a, b, d, x⟩ := o
  cases d <;> first | rfl | exact absurd rfl (k _ _ _)
theorem RO.nocode {a : Addr} {o : Ob} {ho : HO} (r : RO G m n H a o ho) (q : Str) : ho ≠ LamX.CodeO a q := by
  intro z
  have hx : ∀ f : Heap → Prop, LamX.CodeO a q = HO.ext f → ∃ h : Heap, ∃ oc vs, h.get? a = some oc ∧ oc.data = .fields vs ∧ f h := by
    intro f e
    refine ⟨⟨Array.replicate (a + 1) (⟨.none, none, .fields #[.none, .str q default], #[]⟩ : Obj), {}⟩, ⟨.none, none, .fields #[.none, .str q default], #[]⟩, #[.none, .str q default], heap_at a _ (fun _ _ _ z => by cases z), rfl, ?_⟩
    unfold LamX.CodeO at e
    have e' := HO.ext.inj e
    rw [← e']
    exact ⟨_, _, default, heap_at a _ (fun _ _ _ z => by cases z), rfl, rfl⟩
  have nc : ∀ {C : Addr} {d : Option Addr}, erO a C d = LamX.CodeO a q → False := fun {C d} z => by
    unfold LamX.CodeO erO at z
    have z' := HO.ext.inj z
    have t : (fun h : Heap => ∃ oc vs t, h.get? a = some oc ∧ oc.data = .fields vs ∧ vs[1]? = some (.str q t)) (⟨Array.replicate (a + 1) (⟨.none, none, .fields #[.none, .str q default], #[]⟩ : Obj), {}⟩ : Heap) := ⟨_, _, default, heap_at a _ (fun _ _ _ z => by cases z), rfl, rfl⟩
    rw [← z'] at t
    obtain ⟨oe, e1, e2, _⟩ := t
    rw [heap_at a _ (fun _ _ _ z => by cases z)] at e1
    cases e1
    cases e2
  cases r with
  | dn _ _ _ _ =>
    obtain ⟨h, oc, vs, e1, e2, _, _, _, _, o, es, ep, e3, _, e4, _⟩ := hx _ z.symm
    rw [e1] at e3; cases e3; rw [e2] at e4; cases e4
  | st _ _ _ =>
    obtain ⟨h, oc, vs, e1, e2, l', es, ep, t, pm, R⟩ := hx _ z.symm
    obtain ⟨o, e3, _, e4⟩ := R.ob
    rw [e1] at e3; cases e3; rw [e2] at e4; cases e4
  | si _ =>
    obtain ⟨h, oc, vs, e1, e2, R⟩ := hx _ z.symm
    obtain ⟨o, _, _, _, e3, _, e4, _⟩ := R
    rw [e1] at e3; cases e3; rw [e2] at e4; cases e4
  | er0 _ => exact nc z
  | er1 _ _ => exact nc z
  | xo =>
    unfold LamX.CodeO dO at z
    have z' := HO.ext.inj z
    have t : (fun h : Heap => ∃ o : Obj, h.get? a = some o) (⟨Array.replicate (a + 1) (⟨.none, none, .dict #[], #[]⟩ : Obj), {}⟩ : Heap) := ⟨_, heap_at a _ (fun _ _ _ z => by cases z)⟩
    rw [z'] at t
    obtain ⟨oc, vs, t2, e1, e2, _⟩ := t
    rw [heap_at a _ (fun _ _ _ z => by cases z)] at e1
    cases e1
    cases e2
  | _ => unfold LamX.CodeO at z; cases z
theorem RH.none (r : RH G m h H) : RH G m Hpe.nil H where
  sz := Nat.zero_le _
  inj := fun i j hi => absurd hi (Nat.not_lt_zero _)
  obj := fun i hi => absurd hi (Nat.not_lt_zero _)
  tab := r.tab
  ltab := fun P hP => let ⟨ps, a, b, c⟩ := r.ltab P hP; ⟨ps, a, b, fun pos cv e => let ⟨d, e1, e2, _⟩ := c pos cv e; ⟨d, e1, e2, fun i hi => absurd hi (Nat.not_lt_zero _)⟩⟩
theorem Mv.stay0 (r : RH G m h H) (mv : Mv m Hpe.nil.nx H m' n' H') {i : Nat} (hi : i < h.nx) {ho : HO} (e : H (m i) = some ho) : H' (m i) = some ho := by
  obtain ⟨o, ho', _, e1, ro⟩ := r.obj i hi
  rw [e] at e1; cases e1
  exact mv.stay e (fun j hj => absurd hj (Nat.not_lt_zero _)) ro.notup.2.2
theorem RH.back (r : RH G m h H) (r' : RH G m' h' H') (mv : Mv m Hpe.nil.nx H m' h'.nx H') : RH G m h H' where
  sz := r.sz
  inj := r.inj
  obj := fun i hi => by
    obtain ⟨o, ho, e1, e2, ro⟩ := r.obj i hi
    exact ⟨o, ho, e1, mv.stay0 r hi e2, ro.mono (fun _ _ => rfl) (Nat.le_refl _) (mv.tupk r.none)⟩
  tab := r'.tab
  ltab := fun P hP => by
    obtain ⟨ps, a, b, c⟩ := r'.ltab P hP
    refine ⟨ps, a, b, fun pos cv e => ?_⟩
    obtain ⟨d, e1, e2, _⟩ := c pos cv e
    refine ⟨d, e1, e2, fun i hi z => ?_⟩
    obtain ⟨o, ho, _, e3, ro⟩ := r.obj i hi
    have e4 := mv.stay0 r hi e3
    rw [z, e2] at e4
    cases e4
    rw [z] at ro
    exact ro.nocode _ rfl
theorem Mv.back (r : RH G m h H) (mv : Mv m Hpe.nil.nx H m' n' H') : Mv m h.nx H m h.nx H' where
  le := Nat.le_refl _
  old := fun _ _ => rfl
  new := fun i a b => absurd b (by omega)
  kp := fun b o e _ => mv.kp b o e fun i hi => absurd hi (Nat.not_lt_zero _)
  kf := fun i hi ob u e => mv.stay0 r hi e
def frm (g : List W → Hpe → Res W) : List W → Hpe → Res W := fun ws h => bif noRefs ws then
    (match g ws Hpe.nil with
    | .ok w _ => bif noRef w then .ok w h else g ws h
    | .ex x _ => bif noRefs (x.fs.map (·.2)) then .ex x h else g ws h
    | .no => .no)
  else g ws h
theorem FnE.frm {P : Program} {w : World} {K : PySem.W.Frag} {mg : Str → Option Value} {base : Heap} {k : Nat} {f : Addr} {fd : FuncData} {ps : List Str} {cl : Cls} {g : List W → Hpe → Res W} (F : FnE P w K mg base k f fd ps G cl g) : FnE P w K mg base k f fd ps G cl (frm g) := by
  refine ⟨fun A outer s H args us vs Q E hr e0 hb r ⟨m, h, ws, rh, rs, e, o⟩ => ?_⟩
  unfold EV.frm at o
  cases c : noRefs ws with
  | false => rw [c] at o; exact F.run A outer s H args us vs Q E hr e0 hb r ⟨m, h, ws, rh, rs, e, o⟩
  | true =>
    rw [c] at o
    simp only [cond_true] at o
    cases q : g ws Hpe.nil with
    | ok w' h' =>
      simp only [q] at o
      cases d : noRef w' with
      | false => rw [d] at o; exact F.run A outer s H args us vs Q E hr e0 hb r ⟨m, h, ws, rh, rs, e, o⟩
      | true =>
        rw [d] at o
        exact F.run A outer s H args us vs Q E hr e0 hb r ⟨m, Hpe.nil, ws, rh.none, rs.free c, e, by rw [q]; exact fun m' H' v rh' mv rw => o m H' v (rh.back rh' mv) (mv.back rh) (rw.free d)⟩
    | ex x h' =>
      simp only [q] at o
      cases d : noRefs (x.fs.map (·.2)) with
      | false => rw [d] at o; exact F.run A outer s H args us vs Q E hr e0 hb r ⟨m, h, ws, rh, rs, e, o⟩
      | true =>
        rw [d] at o
        refine F.run A outer s H args us vs Q E hr e0 hb r ⟨m, Hpe.nil, ws, rh.none, rs.free c, e, ?_⟩
        rw [q]
        refine fun m' H' c' d' rh' mv ⟨x1, x2⟩ => o m H' c' d' (rh.back rh' mv) (mv.back rh) ⟨x1, ?_⟩
        rcases x2 with x2 | ⟨dx, kus, y1, y2, y3, y4⟩
        · exact .inl x2
        · exact .inr ⟨dx, kus, y1, y2, y3, y4.free d⟩
    | no => simp only [q] at o; exact o.elim
end
def lEqN : List Nat → List Nat → Bool
  | [], [] => true
  | x :: xs, y :: ys => Nat.beq x y && lEqN xs ys
  | _, _ => false
theorem lEqN_t : ∀ {xs ys : List Nat}, lEqN xs ys = true → xs = ys
  | [], [], _ => rfl
  | x :: xs, y :: ys, h => by
    simp only [lEqN, Bool.and_eq_true] at h
    rw [Nat.eq_of_beq_eq_true h.1, lEqN_t h.2]
  | [], _ :: _, h => by simp [lEqN] at h
  | _ :: _, [], h => by simp [lEqN] at h
def strE (a b : Str) : Bool := lEqN a.cps.toList b.cps.toList
theorem strE_t {a b : Str} (h : strE a b = true) : a = b := by
  have e := lEqN_t h
  cases a
  cases b
  exact congrArg _ (Array.toList_inj.mp e)
mutual
def kqW : W → W → Bool
  | .non, .non => true
  | .bl a, .bl b => a == b
  | .int a, .int b => a == b
  | .str a, .str b => strE a b
  | .tup a, .tup b => kqWs a b
  | .df a, .df b => Nat.beq a b
  | _, _ => false
def kqWs : List W → List W → Bool
  | [], [] => true
  | a :: x, b :: y => kqW a b && kqWs x y
  | _, _ => false
end
mutual
theorem kqW_t : ∀ {a b : W}, kqW a b = true → a = b
  | .non, .non, _ => rfl
  | .bl a, .bl b, h => by simp only [kqW, beq_iff_eq] at h; rw [h]
  | .int a, .int b, h => by simp only [kqW, beq_iff_eq] at h; rw [h]
  | .str a, .str b, h => by simp only [kqW] at h; rw [strE_t h]
  | .tup a, .tup b, h => congrArg _ (kqWs_t (by simpa only [kqW] using h))
  | .df a, .df b, h => by simp only [kqW] at h; rw [Nat.eq_of_beq_eq_true h]
  | .non, .bl _, h | .non, .int _, h | .non, .str _, h | .non, .tup _, h | .non, .ref _, h | .non, .df _, h | .non, .clo _ _, h => by simp [kqW] at h
  | .bl _, .non, h | .bl _, .int _, h | .bl _, .str _, h | .bl _, .tup _, h | .bl _, .ref _, h | .bl _, .df _, h | .bl _, .clo _ _, h => by simp [kqW] at h
  | .int _, .non, h | .int _, .bl _, h | .int _, .str _, h | .int _, .tup _, h | .int _, .ref _, h | .int _, .df _, h | .int _, .clo _ _, h => by simp [kqW] at h
  | .str _, .non, h | .str _, .bl _, h | .str _, .int _, h | .str _, .tup _, h | .str _, .ref _, h | .str _, .df _, h | .str _, .clo _ _, h => by simp [kqW] at h
  | .tup _, .non, h | .tup _, .bl _, h | .tup _, .int _, h | .tup _, .str _, h | .tup _, .ref _, h | .tup _, .df _, h | .tup _, .clo _ _, h => by simp [kqW] at h
  | .df _, .non, h | .df _, .bl _, h | .df _, .int _, h | .df _, .str _, h | .df _, .tup _, h | .df _, .ref _, h | .df _, .clo _ _, h => by simp [kqW] at h
  | .ref _, .non, h | .ref _, .bl _, h | .ref _, .int _, h | .ref _, .str _, h | .ref _, .tup _, h | .ref _, .ref _, h | .ref _, .df _, h | .ref _, .clo _ _, h => by simp [kqW] at h
  | .clo _ _, .non, h | .clo _ _, .bl _, h | .clo _ _, .int _, h | .clo _ _, .str _, h | .clo _ _, .tup _, h | .clo _ _, .ref _, h | .clo _ _, .df _, h | .clo _ _, .clo _ _, h => by simp [kqW] at h
theorem kqWs_t : ∀ {a b : List W}, kqWs a b = true → a = b
  | [], [], _ => rfl
  | _ :: _, _ :: _, h => by
    simp only [kqWs, Bool.and_eq_true] at h
    rw [kqW_t h.1, kqWs_t h.2]
  | [], _ :: _, h => by simp [kqWs] at h
  | _ :: _, [], h => by simp [kqWs] at h
end
def isW (r : Res W) (u : W) : Bool := match r with
  | .ok w _ => kqW w u
  | _ => false
theorem frm_kn {g : List W → Hpe → Res W} {ws : List W} {u : W} (a : noRefs ws = true) (b : noRef u = true) (e : isW (g ws Hpe.nil) u = true) (h : Hpe) : frm g ws h = .ok u h := by
  unfold frm
  rw [a]
  unfold isW at e
  split at e
  · rename_i w h' q
    cases kqW_t e
    rw [q]
    simp only [cond_true, b]
  · cases e
end EV
set_option maxHeartbeats 4000000
namespace EV
open PySem PySem.Spec PyProof.Rows L2
section
variable {X : Cx} {G : GC} {pins : List (Addr × Obj)} {σ : L2.St} {H : Hp} {s : Shared} {m : Nat → Addr} {h : Hpe}
end
section
variable {X : Cx} {B : Bx} {σ : L2.St} {pins : List (Addr × Obj)} {m : Nat → Addr} {H : Hp}
end
section
variable {G : GC} {cf : CF} {m : Nat → Addr} {h : Hpe} {ρ : Rho} {σ : L2.St} {H : Hp}
end
section
variable {X : Cx} {B : Bx} {e : Expr} {es : List Expr} {fl : FL} {name x : Str} {p pos cpos rpos : Pos} {i k n kk : Nat} {g : List W → Hpe → Res W} {t : CTx} {c P : Addr} {params : Arguments} {body : List Stmt} {scope : Scope} {js : List Nat} {ps : List Str}
end
end EV
namespace EV
open PySem PySem.Spec PyProof.Rows L2
section
variable {G : GC} {m m' : Nat → Addr} {h h' : Hpe} {H H' : Hp}
theorem DnR.mono {n n' : Nat} {kvs : List (W × W)} {xs : Dn} (r : DnR G m n H kvs xs) (q : ∀ i, i < n → m' i = m i) (l : n ≤ n') (t : TupK H H') : DnR G m' n' H' kvs xs := ⟨r.1, r.2.1, r.2.2.1.mono q l t, r.2.2.2.mono q l t⟩
variable {i : Nat} {od : Obj} {kvs : List (W × W)} {xs : Dn}
end
section
variable {X : Cx} {B : Bx} {e tg : Expr} {fe : FE} {te : TE} {apos cpos tpos : Pos} {elts : List Expr} {kk : Nat}
end
end EV
namespace EV
open PySem PySem.Spec PyProof.Rows L2 RZ
structure WalkP (prog : Program) (w : World) (A : Around) (I S : Addr) (fp wr : List Addr) (n : Nat) (P : Nat → Value → Value → Prop) (St : Nat → Heap → Prop) : Prop where
  off : S ∉ fp
  sub : ∀ b ∈ wr, b ∈ fp
  frame : ∀ i h h', St i h → (∀ b o, b ≠ S → h.get? b = some o → h'.get? b = some o) → St i h'
  item : ∀ (i : Nat) (s : Shared) (Q : Option Value → Shared → Prop) (E : Value → Shared → Prop), i < n → S < s.heap.objs.size → St i s.heap → (∀ h' tk T a b, s.heap.objs.size ≤ T → IsPair h' T a b → P i a b → St (i + 1) h' → (∀ c o, c ∉ wr → s.heap.get? c = some o → h'.get? c = some o) → Q (some (.ref T)) { s with heap := h', toks := tk }) → wpAny (model prog w) A (pyNext (.ref I)) Q E s
  done : ∀ (s : Shared) (Q : Option Value → Shared → Prop) (E : Value → Shared → Prop), St n s.heap → (∀ h' tk, (∀ c o, c ∉ wr → s.heap.get? c = some o → h'.get? c = some o) → Q none { s with heap := h', toks := tk }) → wpAny (model prog w) A (pyNext (.ref I)) Q E s
  self : ∀ (A' : Around) (i : Nat) (s : Shared) (Q : Value → Shared → Prop) (E : Value → Shared → Prop), St i s.heap → Q (.ref I) s → wpAny (model prog w) A' (pyIter (.ref I)) Q E s
structure Got (P : Nat → Value → Value → Prop) (lo : Addr) (h : Heap) (as : List Addr) : Prop where
  rise : as.Pairwise (· < ·)
  above : ∀ a ∈ as, lo ≤ a
  pairs : ∀ (j : Nat) (a : Addr), as[j]? = some a → ∃ x y, P j x y ∧ IsPair h a x y
theorem Got.keep {P : Nat → Value → Value → Prop} {lo : Addr} {h h' : Heap} {as : List Addr} (g : Got P lo h as) (k : ∀ a o, lo ≤ a → h.get? a = some o → h'.get? a = some o) : Got P lo h' as :=
  ⟨g.rise, g.above, fun j a hj => let ⟨x, y, p, e⟩ := g.pairs j a hj; ⟨x, y, p, k a _ (g.above a (List.mem_of_getElem? hj)) e⟩⟩
section
variable {prog : Program} {w : World} {A : Around} {s : Shared} {R : Result → Shared → Prop} {I S lo : Addr} {fp wr : List Addr} {n : Nat} {P : Nat → Value → Value → Prop} {St : Nat → Heap → Prop}
end
section
variable {prog : Program} {w : World} {A : Around} {s : Shared}
end
end EV
namespace EV
open PySem PySem.Spec PyProof.Rows L2 RZ
section
variable {G : GC} {m : Nat → Addr} {h : Hpe} {H H' : Hp}
theorem RH.ext (r : RH G m h H) (k : ∀ b o, H b = some o → H' b = some o) : RH G m h H' ∧ Mv m h.nx H m h.nx H' := by
  have tk : TupK H H' := fun a xs q => by
    rcases q with q | ⟨ob, q⟩
    · exact .inl (k _ _ q)
    · exact .inr ⟨ob, k _ _ q⟩
  refine ⟨⟨r.sz, r.inj, fun i hi => ?_, fun P hP => ?_, fun P hP => (r.ltab P hP).keep (fun _ e => k _ _ e) fun b q e nb => ⟨k _ _ e, nb⟩⟩, Nat.le_refl _, fun _ _ => rfl, fun i a b => absurd a (Nat.not_le_of_lt b), fun b o e _ => .inl (k _ _ e), fun i hi ob u e => k _ _ e⟩
  · obtain ⟨o, ho, e1, e2, ro⟩ := r.obj i hi
    exact ⟨o, ho, e1, k _ _ e2, ro.mono (fun _ _ => rfl) (Nat.le_refl _) tk⟩
  · obtain ⟨ps, e, t⟩ := r.tab P hP
    exact ⟨ps, k _ _ e, t⟩
end
section
variable {prog : Program} {w : World} {A : Around} {E : Value → Shared → Prop} {s : Shared} {z TI TO i1 i2 l1 l2 : Addr} {k : Nat} {xs ys : Array Value}
end
end EV
namespace EV
open PySem PySem.Spec PyProof.Rows L2 RZ DX
section
variable {G : GC} {m : Nat → Addr} {n : Nat} {H : Hp}
end
section
variable {X : Cx} {pins : List (Addr × Obj)} {σ : L2.St} {H : Hp} {s : Shared}
end
section
variable {X : Cx} {B : Bx} {a b c : Expr} {ta : TA} {fs : FA} {p p2 pos pos2 : Pos}
end
end EV
namespace EV
open PySem PySem.Spec PyProof.Rows L2 RZ DX PySem
section
variable {prog : Program} {w : World} {A : Around} {E : Value → Shared → Prop} {s : Shared} {e it l S : Addr} {items : Array Value}
end
section
variable {G : GC} {m : Nat → Addr} {n : Nat} {H : Hp}
end
section
variable {X : Cx} {B : Bx} {a c : Expr} {ta : TA} {fs : FA} {p p2 pos pos2 : Pos}
end
end EV
namespace EV
open PySem PySem.Spec PyProof.Rows L2
section
variable {G : GC} {m : Nat → Addr} {n : Nat} {H : Hp}
end
section
variable {X : Cx} {B : Bx} {e : Expr} {fs : FA} {p pos : Pos}
end
end EV
namespace EV
end EV
namespace EV
open PySem PySem.Spec PyProof.Rows L2 PySem.W
section
variable {X : Cx}
end
section
variable {X : Cx} {B : Bx} {e : Expr} {fs : FA} {pos p : Pos}
end
end EV
namespace EV
open PySem PySem.Spec PyProof.Rows L2 RZ
section
variable {prog : Program} {w : World} {A : Around} {E : Value → Shared → Prop} {s : Shared} {z TI TO i1 i2 l1 l2 : Addr} {k : Nat} {xs ys : Array Value}
theorem zanyL_item {x y a b : Value} {Q : Value → Shared → Prop} (D : ZipApart z TI TO i1 i2 l1 l2) (hz : ZAny s.heap z TI TO) (hTI : IsPair s.heap TI (.ref i1) (.ref i2)) (hTO : IsPair s.heap TO a b)
    (h1 : s.heap.IsListIter i1 l1 k) (h2 : s.heap.IsListIter i2 l2 k) (hl1 : s.heap.IsList l1 xs) (hl2 : s.heap.IsList l2 ys) (hx : xs[k]? = some x) (hy : ys[k]? = some y)
    (hQ : ∀ h', ZAny h' z TI TO → (∃ a b, IsPair h' TO a b) → h'.IsListIter i1 l1 (k + 1) → h'.IsListIter i2 l2 (k + 1) → IsPair h' s.heap.objs.size x y → h'.objs.size = s.heap.objs.size + 1 →
      (∀ c o, c ≠ z → c ≠ TO → c ≠ i1 → c ≠ i2 → s.heap.get? c = some o → h'.get? c = some o) → Q (.ref s.heap.objs.size) { s with heap := h' }) :
    wpAny (model prog w) A (Builtin.«zip.__next__» ⟨[.ref z], []⟩) (fun fin s' => ∃ v, fin = .done (.ret v) ∧ Q v s') E s := by
  have hz0 := hz
  obtain ⟨g0, gl, _, hr⟩ := hz
  show wpAny (model prog w) A (field (.ref z) 2 >>= _) _ E s
  refine wpAny_bind (wpAny_field (s := s) hr rfl (x := .bool false) rfl ?_)
  show wpAny (model prog w) A (field (.ref z) 3 >>= _) _ E s
  refine wpAny_bind (wpAny_field (s := s) hr rfl (x := .ref TI) rfl ?_)
  refine wpAny_bind (wpAny_seqItems (s := s) hTI rfl ?_)
  show wpAny (model prog w) A (Builtin.SmallTypes.ownedTupleIsFree (.ref z) >>= _) _ E s
  refine wpAny_bind (zany_free hz0 fun free h₁ f0 fl hz₁ hs₁ hf => ?_)
  have hTO₁ : IsPair h₁ TO a b := hs₁.extBut _ _ D.TOz hTO
  have h1₁ := h1.extBut hs₁.extBut D.i1z
  have h2₁ := h2.extBut hs₁.extBut D.i2z
  have hl1₁ := hl1.extBut hs₁.extBut D.l1z
  have hl2₁ := hl2.extBut hs₁.extBut D.l2z
  cases free with
  | false =>
    simp only [Bool.false_eq_true, if_false]
    refine wpAny_bind ?_
    rw [← Array.forIn_toList]
    simp only [List.forIn_cons, List.forIn_nil]
    refine wpAny_bind (wpAny_bind (wpAny_holding ?_))
    show wpAny (model prog w) A (Builtin.SmallTypes.nextOf (.ref i1) >>= _) _ E _
    refine wpAny_bind (wpAny_nextOf_list_item (s := { s with heap := h₁ }) h1₁ hl1₁ hx fun h₂ h1₂ hs₂ => wpAny_pure ?_)
    refine wpAny_pure ?_
    refine wpAny_bind (wpAny_bind (wpAny_holding ?_))
    show wpAny (model prog w) A (Builtin.SmallTypes.nextOf (.ref i2) >>= _) _ E _
    refine wpAny_bind (wpAny_nextOf_list_item (s := { s with heap := h₂ }) (h2₁.extBut hs₂.extBut D.i12.symm) (hl2₁.extBut hs₂.extBut D.l2i1) hy fun h₃ h2₃ hs₃ => wpAny_pure ?_)
    refine wpAny_pure (wpAny_pure ?_)
    show wpAny (model prog w) A (newTuple [x, y] >>= _) _ E _
    refine wpAny_bind (wpAny_newTuple ?_)
    have n : h₃.objs.size = s.heap.objs.size := by rw [hs₃.1, hs₂.1]; exact hs₁.1
    have hz₃ : ZRec h₃ z TI TO f0 fl := hs₃.extBut _ _ D.i2z.symm (hs₂.extBut _ _ D.i1z.symm hz₁)
    have kp : ∀ c o, c ≠ z → c ≠ i1 → c ≠ i2 → s.heap.get? c = some o → h₃.get? c = some o := fun c o c1 c2 c3 e => hs₃.extBut _ _ c3 (hs₂.extBut _ _ c2 (hs₁.extBut _ _ c1 e))
    refine wpAny_pure ⟨_, rfl, ?_⟩
    show Q (.ref h₃.objs.size) _
    have up : ∀ c o, h₃.get? c = some o → (h₃.push { cls := .type "tuple", data := .seq #[x, y] }).get? c = some o := fun c o e => Heap.get?_push_of_some _ e
    have q1 : IsPair (h₃.push { cls := .type "tuple", data := .seq #[x, y] }) h₃.objs.size x y := Heap.get?_push_size _ rfl
    have q2 : (h₃.push { cls := .type "tuple", data := .seq #[x, y] }).objs.size = h₃.objs.size + 1 := Heap.size_push ..
    rw [n] at q1 q2 ⊢
    exact hQ _ ⟨f0, fl, hf, up _ _ hz₃⟩ ⟨a, b, up _ _ (kp _ _ D.TOz D.TOi1 D.TOi2 hTO)⟩ ((h1₂.extBut hs₃.extBut D.i12).at fun o e => up _ o e) (h2₃.at fun o e => up _ o e) q1 q2 fun c o c1 _ c3 c4 e => up _ _ (kp c o c1 c3 c4 e)
  | true =>
    simp only [if_true]
    refine wpAny_bind (wpAny_rule ?_)
    refine wpAny_bind (wpAny_field (s := { s with heap := h₁ }) hz₁ rfl (x := .ref TO) rfl ?_)
    refine wpAny_bind (wpAny_setField_rec (s := { s with heap := h₁ }) hz₁ (by simp) fun h₂ hz₂ hs₂ => ?_)
    replace hz₂ : ZRec h₂ z TI TO .ellipsis fl := hz₂
    refine wpAny_bind ?_
    simp only [List.zipIdx_cons, List.zipIdx_nil, List.forIn_cons, List.forIn_nil]
    refine wpAny_bind (wpAny_bind (wpAny_onRaise ?_))
    show wpAny (model prog w) A (Builtin.SmallTypes.nextOf (.ref i1) >>= _) _ _ _
    refine wpAny_bind (wpAny_nextOf_list_item (s := { s with heap := h₂ }) (h1₁.extBut hs₂.extBut D.i1z) (hl1₁.extBut hs₂.extBut D.l1z) hx fun h₃ h1₃ hs₃ => wpAny_pure ?_)
    have hTO₃ : IsPair h₃ TO a b := hs₃.extBut _ _ D.TOi1 (hs₂.extBut _ _ D.TOz hTO₁)
    refine wpAny_bind (wpAny_seqItems (s := { s with heap := h₃ }) hTO₃ rfl ?_)
    refine wpAny_bind (wpAny_updateSeq_pair (s := { s with heap := h₃ }) hTO₃ fun h₄ hTO₄ hs₄ => ?_)
    replace hTO₄ : IsPair h₄ TO x b := hTO₄
    refine wpAny_bind (wpAny_letGo (wpAny_pure ?_))
    refine wpAny_bind (wpAny_bind (wpAny_onRaise ?_))
    show wpAny (model prog w) A (Builtin.SmallTypes.nextOf (.ref i2) >>= _) _ _ _
    refine wpAny_bind (wpAny_nextOf_list_item (s := { s with heap := h₄ }) (((h2₁.extBut hs₂.extBut D.i2z).extBut hs₃.extBut D.i12.symm).extBut hs₄.extBut D.TOi2.symm)
      (((hl2₁.extBut hs₂.extBut D.l2z).extBut hs₃.extBut D.l2i1).extBut hs₄.extBut D.l2TO) hy fun h₅ h2₅ hs₅ => wpAny_pure ?_)
    have hTO₅ : IsPair h₅ TO x b := hs₅.extBut _ _ D.TOi2 hTO₄
    refine wpAny_bind (wpAny_seqItems (s := { s with heap := h₅ }) hTO₅ rfl ?_)
    refine wpAny_bind (wpAny_updateSeq_pair (s := { s with heap := h₅ }) hTO₅ fun h₆ hTO₆ hs₆ => ?_)
    replace hTO₆ : IsPair h₆ TO x y := hTO₆
    refine wpAny_bind (wpAny_letGo (wpAny_pure (wpAny_pure ?_)))
    refine wpAny_bind (wpAny_seqItems (s := { s with heap := h₆ }) hTO₆ rfl ?_)
    refine wpAny_bind (wpAny_newTuple ?_)
    have n : h₆.objs.size = s.heap.objs.size := by rw [hs₆.1, hs₅.1, hs₄.1, hs₃.1, hs₂.1]; exact hs₁.1
    have kp : ∀ c o, c ≠ z → c ≠ TO → c ≠ i1 → c ≠ i2 → s.heap.get? c = some o → h₆.get? c = some o := fun c o c1 c2 c3 c4 e =>
      hs₆.extBut _ _ c2 (hs₅.extBut _ _ c4 (hs₄.extBut _ _ c2 (hs₃.extBut _ _ c3 (hs₂.extBut _ _ c1 (hs₁.extBut _ _ c1 e)))))
    have hz₆ : ZRec h₆ z TI TO .ellipsis fl := hs₆.extBut _ _ D.TOz.symm (hs₅.extBut _ _ D.i2z.symm (hs₄.extBut _ _ D.TOz.symm (hs₃.extBut _ _ D.i1z.symm hz₂)))
    have j1 : h₆.IsListIter i1 l1 (k + 1) := ((h1₃.extBut hs₄.extBut D.TOi1.symm).extBut hs₅.extBut D.i12).extBut hs₆.extBut D.TOi1.symm
    have j2 : h₆.IsListIter i2 l2 (k + 1) := h2₅.extBut hs₆.extBut D.TOi2.symm
    have zl : z < h₆.objs.size := Heap.lt_size hz₆
    show wpAny (model prog w) A (Builtin.SmallTypes.ownedTupleHandOut (.ref z) (.ref h₆.objs.size) >>= _) _ E _
    refine wpAny_bind ?_
    unfold Builtin.SmallTypes.ownedTupleHandOut
    have hz₇ : ZRec (h₆.push { cls := .type "tuple", data := .seq #[x, y] }) z TI TO .ellipsis fl := Heap.get?_push_of_some _ hz₆
    refine wpAny_bind (wpAny_setField_rec hz₇ (by simp) fun h₈ hz₈ hs₈ => ?_)
    replace hz₈ : ZRec h₈ z TI TO (rawInt h₆.objs.size) fl := hz₈
    refine wpAny_setField_rec hz₈ (by simp) fun h₉ hz₉ hs₉ => ?_
    replace hz₉ : ZRec h₉ z TI TO (rawInt h₆.objs.size) false := hz₉
    have up : ∀ c o, c ≠ z → h₆.get? c = some o → h₉.get? c = some o := fun c o c1 e => hs₉.extBut _ _ c1 (hs₈.extBut _ _ c1 (Heap.get?_push_of_some _ e))
    have q1 : IsPair h₉ h₆.objs.size x y := hs₉.extBut _ _ (Nat.ne_of_gt zl) (hs₈.extBut _ _ (Nat.ne_of_gt zl) (Heap.get?_push_size _ rfl))
    have q2 : h₉.objs.size = h₆.objs.size + 1 := by rw [hs₉.1, hs₈.1, Heap.size_push]
    refine wpAny_pure ⟨_, rfl, ?_⟩
    show Q (.ref h₆.objs.size) _
    rw [n] at q1 q2 hz₉ ⊢
    exact hQ h₉ ⟨_, false, .inr ⟨_, rfl⟩, hz₉⟩ ⟨x, y, up _ _ D.TOz hTO₆⟩ (j1.at fun o e => up _ o D.i1z e) (j2.at fun o e => up _ o D.i2z e) q1 q2 fun c o c1 c2 c3 c4 e => up c o c1 (kp c o c1 c2 c3 c4 e)
theorem zanyL_end {a b : Value} {Q : Fin → Shared → Prop} (hh : A.handled = none) (D : ZipApart z TI TO i1 i2 l1 l2) (hz : ZAny s.heap z TI TO) (hTI : IsPair s.heap TI (.ref i1) (.ref i2)) (hTO : IsPair s.heap TO a b)
    (h1 : s.heap.IsListIter i1 l1 k) (h2 : s.heap.IsListIter i2 l2 k) (hl1 : s.heap.IsList l1 xs) (hl2 : s.heap.IsList l2 ys) (hend : xs[k]? = none ∨ ys[k]? = none)
    (hE : ∀ h' e, (∀ c o, c ≠ z → c ≠ TO → c ≠ i1 → c ≠ i2 → s.heap.get? c = some o → h'.get? c = some o) → (∃ o, h'.get? e = some o ∧ o.cls = .type "StopIteration") → E (.ref e) { s with heap := h' }) :
    wpAny (model prog w) A (Builtin.«zip.__next__» ⟨[.ref z], []⟩) Q E s := by
  have hz0 := hz
  obtain ⟨g0, gl, _, hr⟩ := hz
  show wpAny (model prog w) A (field (.ref z) 2 >>= _) _ E s
  refine wpAny_bind (wpAny_field (s := s) hr rfl (x := .bool false) rfl ?_)
  show wpAny (model prog w) A (field (.ref z) 3 >>= _) _ E s
  refine wpAny_bind (wpAny_field (s := s) hr rfl (x := .ref TI) rfl ?_)
  refine wpAny_bind (wpAny_seqItems (s := s) hTI rfl ?_)
  show wpAny (model prog w) A (Builtin.SmallTypes.ownedTupleIsFree (.ref z) >>= _) _ E s
  refine wpAny_bind (zany_free hz0 fun free h₁ f0 fl hz₁ hs₁ hf => ?_)
  have hTO₁ : IsPair h₁ TO a b := hs₁.extBut _ _ D.TOz hTO
  have h1₁ := h1.extBut hs₁.extBut D.i1z
  have h2₁ := h2.extBut hs₁.extBut D.i2z
  have hl1₁ := hl1.extBut hs₁.extBut D.l1z
  have hl2₁ := hl2.extBut hs₁.extBut D.l2z
  cases free with
  | false =>
    simp only [Bool.false_eq_true, if_false]
    refine wpAny_bind ?_
    rw [← Array.forIn_toList]
    simp only [List.forIn_cons, List.forIn_nil]
    refine wpAny_bind (wpAny_bind (wpAny_holding ?_))
    show wpAny (model prog w) A (Builtin.SmallTypes.nextOf (.ref i1) >>= _) _ E _
    cases hx : xs[k]? with
    | none =>
      refine wpAny_bind (wpAny_nextOf_list_end (s := { s with heap := h₁ }) hh h1₁ hl1₁ hx fun h₂ e hs₂ he => ?_)
      exact hE h₂ e (fun c o c1 _ c3 _ q => hs₂ _ _ c3 (hs₁.extBut _ _ c1 q)) he
    | some x =>
      have hy : ys[k]? = none := hend.resolve_left (by rw [hx]; exact fun q => nomatch q)
      refine wpAny_bind (wpAny_nextOf_list_item (s := { s with heap := h₁ }) h1₁ hl1₁ hx fun h₂ h1₂ hs₂ => wpAny_pure ?_)
      refine wpAny_pure ?_
      refine wpAny_bind (wpAny_bind (wpAny_holding ?_))
      show wpAny (model prog w) A (Builtin.SmallTypes.nextOf (.ref i2) >>= _) _ E _
      refine wpAny_bind (wpAny_nextOf_list_end (s := { s with heap := h₂ }) hh (h2₁.extBut hs₂.extBut D.i12.symm) (hl2₁.extBut hs₂.extBut D.l2i1) hy fun h₃ e hs₃ he => ?_)
      exact hE h₃ e (fun c o c1 _ c3 c4 q => hs₃ _ _ c4 (hs₂.extBut _ _ c3 (hs₁.extBut _ _ c1 q))) he
  | true =>
    simp only [if_true]
    refine wpAny_bind (wpAny_rule ?_)
    refine wpAny_bind (wpAny_field (s := { s with heap := h₁ }) hz₁ rfl (x := .ref TO) rfl ?_)
    refine wpAny_bind (wpAny_setField_rec (s := { s with heap := h₁ }) hz₁ (by simp) fun h₂ hz₂ hs₂ => ?_)
    replace hz₂ : ZRec h₂ z TI TO .ellipsis fl := hz₂
    refine wpAny_bind ?_
    simp only [List.zipIdx_cons, List.zipIdx_nil, List.forIn_cons, List.forIn_nil]
    refine wpAny_bind (wpAny_bind (wpAny_onRaise ?_))
    show wpAny (model prog w) A (Builtin.SmallTypes.nextOf (.ref i1) >>= _) _ _ _
    have fin : ∀ (h' : Heap) (e : Addr), ZRec h' z TI TO .ellipsis fl → (∃ o, h'.get? e = some o ∧ o.cls = .type "StopIteration") → (∀ c o, c ≠ z → c ≠ TO → c ≠ i1 → c ≠ i2 → s.heap.get? c = some o → h'.get? c = some o) →
        ∀ h'' : Heap, Heap.SameBut z h' h'' → E (.ref e) { s with heap := h'' } := fun h' e r he kp h'' sb => by
      obtain ⟨o, ho, hc⟩ := he
      have ne : e ≠ z := fun q => by subst q; rw [ZRec, ho] at r; cases r; simp at hc
      exact hE h'' e (fun c o c1 c2 c3 c4 q => sb.extBut _ _ c1 (kp c o c1 c2 c3 c4 q)) ⟨o, sb.extBut _ _ ne ho, hc⟩
    cases hx : xs[k]? with
    | none =>
      refine wpAny_bind (wpAny_nextOf_list_end (s := { s with heap := h₂ }) hh (h1₁.extBut hs₂.extBut D.i1z) (hl1₁.extBut hs₂.extBut D.l1z) hx fun h₃ e hs₃ he => ?_)
      have r : ZRec h₃ z TI TO .ellipsis fl := hs₃ _ _ D.i1z.symm hz₂
      exact wpAny_setField_rec r (by simp) fun h₄ _ sb => fin h₃ e r he (fun c o c1 _ c3 _ q => hs₃ _ _ c3 (hs₂.extBut _ _ c1 (hs₁.extBut _ _ c1 q))) h₄ sb
    | some x =>
      have hy : ys[k]? = none := hend.resolve_left (by rw [hx]; exact fun q => nomatch q)
      refine wpAny_bind (wpAny_nextOf_list_item (s := { s with heap := h₂ }) (h1₁.extBut hs₂.extBut D.i1z) (hl1₁.extBut hs₂.extBut D.l1z) hx fun h₃ h1₃ hs₃ => wpAny_pure ?_)
      have hTO₃ : IsPair h₃ TO a b := hs₃.extBut _ _ D.TOi1 (hs₂.extBut _ _ D.TOz hTO₁)
      refine wpAny_bind (wpAny_seqItems (s := { s with heap := h₃ }) hTO₃ rfl ?_)
      refine wpAny_bind (wpAny_updateSeq_pair (s := { s with heap := h₃ }) hTO₃ fun h₄ hTO₄ hs₄ => ?_)
      refine wpAny_bind (wpAny_letGo (wpAny_pure ?_))
      refine wpAny_bind (wpAny_bind (wpAny_onRaise ?_))
      show wpAny (model prog w) A (Builtin.SmallTypes.nextOf (.ref i2) >>= _) _ _ _
      refine wpAny_bind (wpAny_nextOf_list_end (s := { s with heap := h₄ }) hh (((h2₁.extBut hs₂.extBut D.i2z).extBut hs₃.extBut D.i12.symm).extBut hs₄.extBut D.TOi2.symm)
        (((hl2₁.extBut hs₂.extBut D.l2z).extBut hs₃.extBut D.l2i1).extBut hs₄.extBut D.l2TO) hy fun h₅ e hs₅ he => ?_)
      have r : ZRec h₅ z TI TO .ellipsis fl := hs₅ _ _ D.i2z.symm (hs₄.extBut _ _ D.TOz.symm (hs₃.extBut _ _ D.i1z.symm hz₂))
      exact wpAny_setField_rec r (by simp) fun h₆ _ sb => fin h₅ e r he (fun c o c1 c2 c3 c4 q => hs₅ _ _ c4 (hs₄.extBut _ _ c2 (hs₃.extBut _ _ c3 (hs₂.extBut _ _ c1 (hs₁.extBut _ _ c1 q))))) h₆ sb
end
end EV
namespace EV
open PySem PySem.Spec PyProof.Rows L2 RZ
def ZStL (z TI TO i1 i2 l1 l2 : Addr) (k : Nat) (h : Heap) : Prop := ZAny h z TI TO ∧ IsPair h TI (.ref i1) (.ref i2) ∧ (∃ a b, IsPair h TO a b) ∧ h.IsListIter i1 l1 k ∧ h.IsListIter i2 l2 k
section
variable {prog : Program} {w : World} {A : Around} {E : Value → Shared → Prop} {s : Shared} {z TI TO i1 i2 l1 l2 e : Addr} {k : Nat} {xs ys : Array Value}
theorem ZStL.at {h h' : Heap} (st : ZStL z TI TO i1 i2 l1 l2 k h) (kp : ∀ c, c = z ∨ c = TI ∨ c = TO ∨ c = i1 ∨ c = i2 → ∀ o, h.get? c = some o → h'.get? c = some o) : ZStL z TI TO i1 i2 l1 l2 k h' := by
  obtain ⟨⟨f0, fl, hf, hr⟩, h1, ⟨a, b, h2⟩, h3, h4⟩ := st
  exact ⟨⟨f0, fl, hf, kp z (.inl rfl) _ hr⟩, kp TI (.inr (.inl rfl)) _ h1, ⟨a, b, kp TO (.inr (.inr (.inl rfl))) _ h2⟩, h3.at fun o q => kp i1 (by simp) o q, h4.at fun o q => kp i2 (by simp) o q⟩
theorem zstL_item {x y : Value} {Q : Value → Shared → Prop} (D : ZipApart z TI TO i1 i2 l1 l2) (st : ZStL z TI TO i1 i2 l1 l2 k s.heap) (hl1 : s.heap.IsList l1 xs) (hl2 : s.heap.IsList l2 ys) (hx : xs[k]? = some x) (hy : ys[k]? = some y)
    (hQ : ∀ h', ZStL z TI TO i1 i2 l1 l2 (k + 1) h' → IsPair h' s.heap.objs.size x y → h'.objs.size = s.heap.objs.size + 1 → (∀ c o, c ≠ z → c ≠ TO → c ≠ i1 → c ≠ i2 → s.heap.get? c = some o → h'.get? c = some o) → Q (.ref s.heap.objs.size) { s with heap := h' }) :
    wpAny (model prog w) A (Builtin.SmallTypes.nextOf (.ref z)) Q E s := by
  obtain ⟨hz, hTI, ⟨a, b, hTO⟩, h1, h2⟩ := st
  obtain ⟨f0, fl, _, hr⟩ := id hz
  have ty : s.TypeIs (.ref z) "zip" := ⟨_, hr, rfl⟩
  unfold Builtin.SmallTypes.nextOf
  refine wpAny_bind (wpAny_callSpecial?_slot (name := Str.ofString "__next__") ty F.slot_zip_next (wpAny_call_entry F.slot_zip_next ty F.entry_zip_next ?_ (F.args_zip_next_1 _)))
  exact zanyL_item D hz hTI hTO h1 h2 hl1 hl2 hx hy fun h' a1 a2 a3 a4 a5 a6 a7 => wpAny_pure (hQ h' ⟨a1, a7 _ _ D.TIz D.TITO D.TIi1 D.TIi2 hTI, a2, a3, a4⟩ a5 a6 a7)
theorem zstL_end {Q : Value → Shared → Prop} (hh : A.handled = none) (D : ZipApart z TI TO i1 i2 l1 l2) (st : ZStL z TI TO i1 i2 l1 l2 k s.heap) (hl1 : s.heap.IsList l1 xs) (hl2 : s.heap.IsList l2 ys) (hend : xs[k]? = none ∨ ys[k]? = none)
    (hE : ∀ h' e, (∀ c o, c ≠ z → c ≠ TO → c ≠ i1 → c ≠ i2 → s.heap.get? c = some o → h'.get? c = some o) → (∃ o, h'.get? e = some o ∧ o.cls = .type "StopIteration") → E (.ref e) { s with heap := h' }) :
    wpAny (model prog w) A (Builtin.SmallTypes.nextOf (.ref z)) Q E s := by
  obtain ⟨hz, hTI, ⟨a, b, hTO⟩, h1, h2⟩ := st
  obtain ⟨f0, fl, _, hr⟩ := id hz
  have ty : s.TypeIs (.ref z) "zip" := ⟨_, hr, rfl⟩
  unfold Builtin.SmallTypes.nextOf
  refine wpAny_bind (wpAny_callSpecial?_slot (name := Str.ofString "__next__") ty F.slot_zip_next (wpAny_call_entry F.slot_zip_next ty F.entry_zip_next ?_ (F.args_zip_next_1 _)))
  exact zanyL_end hh D hz hTI hTO h1 h2 hl1 hl2 hend hE
end
end EV
namespace EV
open PySem PySem.Spec PyProof.Rows L2 RZ
def ItEZL (K : PySem.W.Frag) (a b : Addr) : It :=
  ⟨fun i H => ∃ (xs ys : List V) (x y : V), SqL K H a xs ∧ SqL K H b ys ∧ xs[i]? = some x ∧ ys[i]? = some y,
    fun i H v H' => ∃ T U x y, v = .ref U ∧ H T = none ∧ U ≠ T ∧ H U = none ∧ H' = upd (upd H T (.tup [x, y])) U (.tup [.int (i : Nat), .ref T]) ∧ (∀ xs, SqL K H a xs → xs[i]? = some x) ∧ ∀ ys, SqL K H b ys → ys[i]? = some y,
    fun i H => ∃ xs ys : List V, SqL K H a xs ∧ SqL K H b ys ∧ (xs.length ≤ i ∨ ys.length ≤ i)⟩
theorem turn_EZL {P : Program} {w : World} {K : PySem.W.Frag} {elts : List Expr} {kk : Nat} {tpos : Pos} {e a b z TI TO i1 i2 : Addr} (D : ZipApart z TI TO i1 i2 a b) (n0 : e ≠ z) (n1 : e ≠ TI) (n2 : e ≠ TO) (n3 : e ≠ i1) (n4 : e ≠ i2) :
    Turn P w K (.Tuple elts kk tpos) (ItEZL K a b) [e, z, TI, TO, i1, i2] e (fun i h => (∃ old, IsEnum h e z ((i : Nat) : Int) old) ∧ ZStL z TI TO i1 i2 a b i h) where
  mem := by simp
  obj := fun i h ⟨⟨old, he⟩, ⟨f0, fl, _, hr⟩, hTI, ⟨x, y, hTO⟩, ⟨o1, e1, _, d1⟩, ⟨o2, e2, _, d2⟩⟩ c hc => by
    have e' : c = e ∨ c = z ∨ c = TI ∨ c = TO ∨ c = i1 ∨ c = i2 := by simpa using hc
    rcases e' with q | q | q | q | q | q
    · rw [q]; exact ⟨_, he, fun v q => nomatch q⟩
    · rw [q]; exact ⟨_, hr, fun v q => nomatch q⟩
    · rw [q]; exact ⟨_, hTI, fun v q => nomatch q⟩
    · rw [q]; exact ⟨_, hTO, fun v q => nomatch q⟩
    · rw [q]; exact ⟨o1, e1, fun v q => by rw [d1] at q; cases q⟩
    · rw [q]; exact ⟨o2, e2, fun v q => by rw [d2] at q; cases q⟩
  keep := fun i h h' ⟨⟨old, he⟩, st⟩ k => ⟨⟨old, k e (by simp) _ he⟩, st.at fun c hc o q => k c (by rcases hc with r | r | r | r | r <;> simp [r]) o q⟩
  item := by
    intro X hP hw hK hc i pins s σ H E I hf ⟨⟨old, he⟩, st⟩ ⟨vs, us, x, y, hqx, hqy, hx, hy⟩
    subst hP hw hK
    obtain ⟨its, rv, p, _⟩ := I.list hqx
    obtain ⟨its2, rv2, p2, _⟩ := I.list hqy
    obtain ⟨u, hu, ru⟩ := rv.get hx
    obtain ⟨u2, hu2, ru2⟩ := rv2.get hy
    have el : e < s.heap.objs.size := Heap.lt_size he
    refine enum_step he fun {Q' E'} k => zstL_item D st p.isList p2.isList (x := u) (y := u2) (by simpa using hu) (by simpa using hu2) fun h' st' hT hsz kp => k _ h' (kp e _ n0 n2 n3 n4 he) fun h'' tk ho hU kp2 => ?_
    refine ⟨_, rfl, wpAny_letOwnedTupleGo_enum (s := { s with heap := h'', toks := tk + 1 }) ho fun h3 he3 sb => ?_⟩
    have Tl : s.heap.objs.size < h'.objs.size := by rw [hsz]; exact Nat.lt_succ_self _
    have new1 : ObjOk X.prog X.w (upd H s.heap.objs.size (.tup [x, y])) h' s.heap.objs.size (.tup [x, y]) := ⟨by show 2 ≤ sizeLine; decide, [u, u2], .cons ru (.cons ru2 .nil), ⟨_, hT, rfl, _, rfl⟩⟩
    have I1 : Inv X pins σ (upd H s.heap.objs.size (.tup [x, y])) { s with heap := h' } :=
      I.turnedNew (t' := s.toks) (ch := [e, z, TI, TO, i1, i2]) (fun c o hb q => kp c o (fun r => hb (by simp [r])) (fun r => hb (by simp [r])) (fun r => hb (by simp [r])) (fun r => hb (by simp [r])) q) hf (Nat.le_refl _) new1
    have lt : ∀ c ∈ [e, z, TI, TO, i1, i2], c < s.heap.objs.size := fun c hc => by
      obtain ⟨⟨f0, fl, _, hr⟩, hTI, ⟨x', y', hTO⟩, ⟨o1, e1, _⟩, ⟨o2, e2, _⟩⟩ := st
      have e' : c = e ∨ c = z ∨ c = TI ∨ c = TO ∨ c = i1 ∨ c = i2 := by simpa using hc
      rcases e' with q | q | q | q | q | q
      · rw [q]; exact el
      · rw [q]; exact Heap.lt_size hr
      · rw [q]; exact Heap.lt_size hTI
      · rw [q]; exact Heap.lt_size hTO
      · rw [q]; exact Heap.lt_size e1
      · rw [q]; exact Heap.lt_size e2
    have hf1 : ∀ c ∈ [e, z, TI, TO, i1, i2], FpOk X pins (upd H s.heap.objs.size (.tup [x, y])) c := fun c hc => ⟨by rw [upd_ne (Nat.ne_of_lt (lt c hc))]; exact (hf c hc).1, (hf c hc).2⟩
    have hU2 : h3.get? h'.objs.size = some { cls := .type "tuple", data := .seq #[.int i tk, .ref s.heap.objs.size] } := (sb.2 _ (Nat.ne_of_gt (Nat.lt_trans el Tl))).trans hU
    have new2 : ObjOk X.prog X.w (upd (upd H s.heap.objs.size (.tup [x, y])) h'.objs.size (.tup [.int (i : Nat), .ref s.heap.objs.size])) h3 h'.objs.size (.tup [.int (i : Nat), .ref s.heap.objs.size]) :=
      ⟨by show 2 ≤ sizeLine; decide, [.int i tk, .ref s.heap.objs.size], .cons ⟨_, rfl⟩ (.cons rfl .nil), ⟨_, hU2, rfl, _, rfl⟩⟩
    have I2 : Inv X pins σ (upd (upd H s.heap.objs.size (.tup [x, y])) h'.objs.size (.tup [.int (i : Nat), .ref s.heap.objs.size])) { s with heap := h3, toks := tk + 1 } :=
      I1.turnedNew (s := { s with heap := h' }) (t' := tk + 1) (ch := [e, z, TI, TO, i1, i2]) (fun c o hb q => (sb.2 c (fun r => hb (by simp [r]))).trans (kp2 c o (fun r => hb (by simp [r])) q)) hf1 (Nat.le_refl _) new2
    have hTn : H s.heap.objs.size = none := I.hok.fresh (Nat.le_refl _)
    have hUn : H h'.objs.size = none := I.hok.fresh (Nat.le_of_lt Tl)
    refine ⟨.ref h'.objs.size, _, I2, rfl, ⟨_, _, x, y, rfl, hTn, Nat.ne_of_gt Tl, hUn, rfl, fun l hl => by rw [I.list_inj hl hqx]; exact hx, fun l hl => by rw [I.list_inj hl hqy]; exact hy⟩, ⟨⟨.ref s.heap.objs.size, ?_⟩, st'.at fun c hcz o q => ?_⟩, fun c hc => ?_⟩
    · have e1 : ((i + 1 : Nat) : Int) = (i : Int) + 1 := by omega
      rw [e1]; exact he3
    · have ce : c ≠ e := by
        rcases hcz with r | r | r | r | r <;> subst r
        · exact n0.symm
        · exact n1.symm
        · exact n2.symm
        · exact n3.symm
        · exact n4.symm
      exact (sb.2 c ce).trans (kp2 c o ce q)
    · rw [upd_ne (Nat.ne_of_lt (Nat.lt_trans (lt c hc) Tl)), upd_ne (Nat.ne_of_lt (lt c hc))]
      exact (hf c hc).1
  done := by
    intro X hP hw hK hc i pins s σ H E I hf ⟨⟨old, he⟩, st⟩ ⟨vs, us, hqx, hqy, hend⟩
    subst hP hw hK
    obtain ⟨its, rv, p, _⟩ := I.list hqx
    obtain ⟨its2, rv2, p2, _⟩ := I.list hqy
    have l1 := rv.length
    have l2 := rv2.length
    have hn : its.toArray[i]? = none ∨ its2.toArray[i]? = none := by
      rcases hend with q | q
      · exact .inl (by simp; omega)
      · exact .inr (by simp; omega)
    refine enum_stop he fun {Q' E'} k => zstL_end (by exact I.ok.hd hc) D st p.isList p2.isList hn fun h' x kp hx => k h' x hx ⟨rfl, ?_⟩
    exact I.turnedL (t' := s.toks) (ch := [e, z, TI, TO, i1, i2]) (fun c o hb q => kp c o (fun r => hb (by simp [r])) (fun r => hb (by simp [r])) (fun r => hb (by simp [r])) (fun r => hb (by simp [r])) q) hf
  self := fun A i s Q E ⟨⟨_, he⟩, _⟩ h => wpAny_pyIter_enum he h
def iEZL (K : PySem.W.Frag) (ta : TA) : TI := fun σ H R => ta σ H fun vs H1 => ∃ a b xs ys, vs = [.ref a, .ref b] ∧ SqL K H1 a xs ∧ SqL K H1 b ys ∧ R (ItEZL K a b) H1
theorem pi_EZL {X : Cx} {c e e2 : Expr} {ta : TA} {p pos tpos p2 pos2 : Pos} {elts : List Expr} {kk : Nat} (ec : c = .Call (.Name "zip" p2) [e, e2] [] pos2) (hg : Gl X "enumerate") (hm : X.mg "enumerate" = none) (hg2 : Gl X "zip") (hm2 : X.mg "zip" = none) (ha : PA X [e, e2] ta)
    (hs : starEach [e, e2] X.env = (false, eval e X.env) :: starEach [e2] X.env) (hpl : (backTo pos2 (starEach [e2] X.env)).any (·.1) = false) (hs1 : starEach [c] X.env = (false, eval c X.env) :: starEach [] X.env) :
    PI X (.Tuple elts kk tpos) (.Call (.Name "enumerate" p) [c] [] pos) (iEZL X.K ta) := by
  refine ⟨fun pins s σ H R I h => ?_⟩
  refine Call_ (ld_blt I hg hm boot_enumerate (PyProof.Rows.callWith_type1 (args_cons ?_ hs1) hs1 rfl))
  subst ec
  refine Call_ (ld_blt I hg2 hm2 PyProof.Rows.boot_zip (PyProof.Rows.callWith_type1 (thn (ha.run pos2 pins s σ H _ I h) fun us s1 ⟨vs, H1, I1, r1, a, b, xs, ys, ex, hqx, hqy, q⟩ => ?_) hs hpl))
  subst ex
  cases r1 with
  | cons r rr =>
    cases rr with
    | cons r' rr =>
      cases rr
      cases r
      cases r'
      obtain ⟨its, rv, p1, _⟩ := I1.list hqx
      obtain ⟨its2, rv2, p2, _⟩ := I1.list hqy
      have D := PySem.W.ktu_apart s1.heap.objs.size a b p1.lt p2.lt
      refine call_zip_2 p1.isList p2.isList fun h1 hz hTI hTO j1 j2 hsz kp => args_nil ?_
      refine call_enumZ (s := { s1 with heap := h1 }) hz fun h2 he kp2 => wpAny_pyIter_enum he ?_
      have I2 : Inv X pins σ H1 { s1 with heap := h2 } := I1.kept (t' := s1.toks) fun c o q => kp2 c o (kp c o q)
      have st : ZStL (s1.heap.objs.size + 4) (s1.heap.objs.size + 2) (s1.heap.objs.size + 3) s1.heap.objs.size (s1.heap.objs.size + 1) a b 0 h2 :=
        ⟨⟨.none, false, .inl rfl, kp2 _ _ hz⟩, kp2 _ _ hTI, ⟨_, _, kp2 _ _ hTO⟩, j1.at fun o q => kp2 _ o q, j2.at fun o q => kp2 _ o q⟩
      have hsz' : (Shared.heap { s1 with heap := h1 }).objs.size = s1.heap.objs.size + 5 := hsz
      rw [hsz'] at he ⊢
      refine ⟨s1.heap.objs.size + 5, [s1.heap.objs.size + 5, s1.heap.objs.size + 4, s1.heap.objs.size + 2, s1.heap.objs.size + 3, s1.heap.objs.size, s1.heap.objs.size + 1], _, _, H1, rfl, I2, turn_EZL (e := s1.heap.objs.size + 5) D (Nat.ne_of_gt (Nat.add_lt_add_left (by decide) _)) (Nat.ne_of_gt (Nat.add_lt_add_left (by decide) _)) (Nat.ne_of_gt (Nat.add_lt_add_left (by decide) _)) (Nat.ne_of_gt (Nat.lt_add_of_pos_right (by decide))) (Nat.ne_of_gt (Nat.add_lt_add_left (by decide) _)), ⟨⟨.none, he⟩, st⟩, fun c hc => ?_, q⟩
      have e' : c = s1.heap.objs.size + 5 ∨ c = s1.heap.objs.size + 4 ∨ c = s1.heap.objs.size + 2 ∨ c = s1.heap.objs.size + 3 ∨ c = s1.heap.objs.size ∨ c = s1.heap.objs.size + 1 := by simpa using hc
      have hle : s1.heap.objs.size ≤ c := by rcases e' with r | r | r | r | r | r <;> rw [r] <;> first | exact Nat.le_add_right _ _ | exact Nat.le_refl _
      exact I1.fpOk hle (I1.hok.fresh hle)
def srcEZL (a b : Nat) : Src := fun h i => match rdL h a, rdL h b with
  | some xs, some ys => match nthR xs i, nthR ys i with
    | some x, some y => some (some (.tup [.int (i : Nat), .tup [x, y]]))
    | _, _ => some none
  | _, _ => none
theorem its_EZL {G : GC} {m : Nat → Addr} {n k l : Nat} {H : Hp} (hk : k < n) (hl : l < n) : ItS G m n H (srcEZL k l) (ItEZL G.K (m k) (m l)) := by
  intro m' h' H' j rh old le tk kf
  simp only [srcEZL]
  cases e1 : rdL h' k with
  | none => exact ⟨fun z => (by cases z), fun w z => (by cases z)⟩
  | some xs =>
    cases e2 : rdL h' l with
    | none => exact ⟨fun z => (by cases z), fun w z => (by cases z)⟩
    | some ys =>
      obtain ⟨us, s1, q1⟩ := rh.rd (Nat.lt_of_lt_of_le hk le) e1
      obtain ⟨vs, s2, q2⟩ := rh.rd (Nat.lt_of_lt_of_le hl le) e2
      rw [old k hk] at s1
      rw [old l hl] at s2
      simp only [nthR_eq]
      cases c1 : xs[j]? with
      | none => exact ⟨fun _ => ⟨us, vs, s1, s2, .inl (by rw [← q1.len]; exact none_len c1)⟩, fun w z => (by cases z)⟩
      | some x =>
        cases c2 : ys[j]? with
        | none => exact ⟨fun _ => ⟨us, vs, s1, s2, .inr (by rw [← q2.len]; exact none_len c2)⟩, fun w z => (by cases z)⟩
        | some y =>
          obtain ⟨u, a1, b1⟩ := q1.get c1
          obtain ⟨v, a2, b2⟩ := q2.get c2
          refine ⟨fun z => (by cases z), fun w z => ?_⟩
          cases z
          refine ⟨⟨us, vs, u, v, s1, s2, a1, a2⟩, fun x' H'' yl => ?_⟩
          obtain ⟨T, U, p, r, rfl, hT, hUT, hU, rfl, f1, f2⟩ := yl
          have := f1 us s1; rw [a1] at this; cases this
          have := f2 vs s2; rw [a2] at this; cases this
          obtain ⟨rh1, v1, r1⟩ := pair_new rh hT b1 b2
          obtain ⟨rh2, v2, r2⟩ := pair_new rh1 (T := U) (by rw [upd_ne hUT]; exact hU) (.int (j : Nat)) r1
          exact ⟨rh2, v1.trans (rh1.mv_ne v1) v2, r2⟩
section
variable {X : Cx} {B : Bx} {c a b : Expr} {fs : FA} {p p2 pos pos2 tpos : Pos}
def iEZLf (fs : FA) : FI := fun ρ h => (fs ρ h).bind fun ws h1 => match ws with
  | [.ref i, .ref j] => match rdL h1 i, rdL h1 j with
    | some _, some _ => .ok (srcEZL i j) h1
    | _, _ => .no
  | _ => .no
theorem si_EZL {elts : List Expr} {kk : Nat} (ec : c = .Call (.Name "zip" p2) [a, b] [] pos2) (hK : X.K = B.G.K) (hg : Gl X "enumerate") (hm : X.mg "enumerate" = none) (hg2 : Gl X "zip") (hm2 : X.mg "zip" = none) (ha : SA X B [a, b] fs) (hs : starEach [a, b] X.env = (false, eval a X.env) :: starEach [b] X.env) (hpl : (backTo pos2 (starEach [b] X.env)).any (·.1) = false)
    (hs1 : starEach [c] X.env = (false, eval c X.env) :: starEach [] X.env) :
    SI X B (.Tuple elts kk tpos) (.Call (.Name "enumerate" p) [c] [] pos) (iEZLf fs) :=
  pi_imp (pi_EZL ec hg hm hg2 hm2 ha hs hpl hs1) fun σ H R ⟨m, h, ρ, s, o⟩ => ⟨m, h, ρ, s, (Out.bind s.rh o).mono fun vs H1 ⟨ws, m1, h1, r1, v1, q1, o1⟩ => by
    match ws, o1 with
    | [.ref i, .ref j], o1 =>
      obtain ⟨v, u, rfl, ra, rb⟩ := rws_two q1
      obtain ⟨rfl, hi⟩ := rw_ref ra
      obtain ⟨rfl, hj⟩ := rw_ref rb
      dsimp only at o1
      cases e1 : rdL h1 i with
      | none => rw [e1] at o1; exact o1.elim
      | some xs =>
        cases e2 : rdL h1 j with
        | none => rw [e1, e2] at o1; exact o1.elim
        | some ys =>
          rw [e1, e2] at o1
          obtain ⟨us, s1, _⟩ := r1.rd hi e1
          obtain ⟨vs, s2, _⟩ := r1.rd hj e2
          exact ⟨_, _, us, vs, rfl, by rw [hK]; exact s1, by rw [hK]; exact s2, by rw [hK]; exact o1 m1 H1 _ r1 Mv.refl (its_EZL hi hj)⟩⟩
end
end EV
namespace EV
open PySem PySem.Spec PyProof.Rows L2 RZ DX
section
variable {prog : Program} {w : World} {A : Around} {E : Value → Shared → Prop} {s : Shared} {z TI TO i1 i2 l1 l2 : Addr} {k : Nat} {xs ys : Array Value}
end
section
variable {X : Cx} {B : Bx} {a b c : Expr} {ta : TA} {fs : FA} {p p2 pos pos2 : Pos}
end
end EV
namespace EV
open PySem PySem.Spec PyProof.Rows L2
section
variable {X : Cx} {pins : List (Addr × Obj)} {σ : L2.St} {H : Hp} {s : Shared}
end
section
variable {X : Cx} {B : Bx} {e : Expr} {fs : FA} {p pos : Pos}
end
end EV
namespace EV
open PySem PySem.Spec PyProof.Rows L2 RZ
def ItzM (K : PySem.W.Frag) (a b : Addr) : It :=
  ⟨fun i H => ∃ (xs ys : List V) (x y : V), SqL K H a xs ∧ SqT K H b ys ∧ xs[i]? = some x ∧ ys[i]? = some y,
    fun i H v H' => ∃ T x y, v = .ref T ∧ H T = none ∧ H' = upd H T (.tup [x, y]) ∧ (∀ xs, SqL K H a xs → xs[i]? = some x) ∧ ∀ ys, SqT K H b ys → ys[i]? = some y,
    fun i H => ∃ xs ys : List V, SqL K H a xs ∧ SqT K H b ys ∧ i ≤ xs.length ∧ i ≤ ys.length ∧ (i = xs.length ∨ i = ys.length)⟩
theorem turn_zipM {P : Program} {w : World} {K : PySem.W.Frag} {elts : List Expr} {kk : Nat} {tpos : Pos} {a b z TI TO i1 i2 : Addr} (S : ZipSep2 z TI TO i1 i2 [i1, a] [i2, b]) :
    Turn P w K (.Tuple elts kk tpos) (ItzM K a b) [z, TI, TO, i1, i2] z (fun i h => IsZip h z TI TO .none ∧ IsPair h TI (.ref i1) (.ref i2) ∧ (∃ x y, IsPair h TO x y) ∧ h.IsListIter i1 a i ∧ h.IsTupleIter i2 b i) where
  mem := List.mem_cons_self
  obj := fun i h ⟨hz, hTI, ⟨x, y, hTO⟩, ⟨o1, e1, _, d1⟩, ⟨o2, e2, _, d2⟩⟩ c hc => by
    have e' : c = z ∨ c = TI ∨ c = TO ∨ c = i1 ∨ c = i2 := by simpa using hc
    rcases e' with q | q | q | q | q
    · rw [q]; exact ⟨_, hz, fun v q => nomatch q⟩
    · rw [q]; exact ⟨_, hTI, fun v q => nomatch q⟩
    · rw [q]; exact ⟨_, hTO, fun v q => nomatch q⟩
    · rw [q]; exact ⟨o1, e1, fun v q => by rw [d1] at q; cases q⟩
    · rw [q]; exact ⟨o2, e2, fun v q => by rw [d2] at q; cases q⟩
  keep := fun i h h' ⟨hz, hTI, ⟨x, y, hTO⟩, h1, h2⟩ k => ⟨k z (by simp) _ hz, k TI (by simp) _ hTI, ⟨x, y, k TO (by simp) _ hTO⟩, h1.at fun o q => k i1 (by simp) o q, h2.at fun o q => k i2 (by simp) o q⟩
  item := by
    intro X hP hw hK hc i pins s σ H E I hf ⟨hz, hTI, ⟨x0, y0, hTO⟩, h1, h2⟩ ⟨us, vs, x, y, hqx, hqy, hx, hy⟩
    subst hP hw hK
    obtain ⟨its, rv, p, _⟩ := I.list hqx
    obtain ⟨its2, rv2, p2, _⟩ := I.tuple hqy
    obtain ⟨u, hu, ru⟩ := rv.get hx
    obtain ⟨u2, hu2, ru2⟩ := rv2.get hy
    have n1 : a ≠ i1 := fun e => by have := S.sep2_1; have := S.mem1; exact absurd p.isList (fun ⟨o, eo, co, _⟩ => by obtain ⟨o', eo', co', _⟩ := h1; rw [e, eo'] at eo; cases eo; rw [co'] at co; exact absurd co (by decide))
    have n2 : b ≠ i2 := fun e => by obtain ⟨o, eo, co, _⟩ := p2; obtain ⟨o', eo', co', _⟩ := h2; rw [e, eo'] at eo; cases eo; rw [co'] at co; exact absurd co (by decide)
    have lz : z < s.heap.objs.size := Heap.lt_size hz
    have l1 : i < its.toArray.size := by
      rw [List.size_toArray]; exact (List.getElem?_eq_some_iff.mp hu).1
    have l2 : i < its2.toArray.size := by
      rw [List.size_toArray]; exact (List.getElem?_eq_some_iff.mp hu2).1
    have D1 := Draws.list (prog := X.prog) (w := X.w) (A := X.A.in1) (show X.A.in1.handled = none from I.ok.hd hc) i1 a n1 its.toArray
    have D2 := Draws.tuple (prog := X.prog) (w := X.w) (A := X.A.in1) (show X.A.in1.handled = none from I.ok.hd hc) i2 b n2 its2.toArray
    refine wpAny_pyNext_zipD2_item S D1 D2 hz hTI hTO ⟨h1, p.isList⟩ ⟨h2, p2⟩ l1 l2 fun x1 x2 h' tk p1' p2' hz' hTO' st1 st2 hT hsz kp => ?_
    have eu : x1 = u := by
      have z1 : its.toArray[i]? = some x1 := p1'
      rw [List.getElem?_toArray, hu] at z1
      exact (Option.some.inj z1).symm
    have eu2 : x2 = u2 := by
      have z1 : its2.toArray[i]? = some x2 := p2'
      rw [List.getElem?_toArray, hu2] at z1
      exact (Option.some.inj z1).symm
    subst eu eu2
    refine ⟨_, rfl, wpAny_letOwnedTupleGo_zip (s := { s with heap := h', toks := tk }) hz' fun h3 hz3 sb => ?_⟩
    have hT3 : h3.get? s.heap.objs.size = some { cls := .type "tuple", data := .seq #[x1, x2] } := (sb.2 _ (Nat.ne_of_gt lz)).trans hT
    have new : ObjOk X.prog X.w (upd H s.heap.objs.size (.tup [x, y])) h3 s.heap.objs.size (.tup [x, y]) := ⟨by show 2 ≤ sizeLine; decide, [x1, x2], .cons ru (.cons ru2 .nil), ⟨_, hT3, rfl, _, rfl⟩⟩
    have J : Inv X pins σ (upd H s.heap.objs.size (.tup [x, y])) { s with heap := h3, toks := tk } :=
      I.turnedNew (t' := tk) (ch := [z, TI, TO, i1, i2]) (fun c o hb q => (sb.2 c (fun r => hb (by simp [r]))).trans (kp c o (fun r => hb (by simp [r])) (fun r => hb (by simp [r])) (fun r => hb (by simp [r])) (fun r => hb (by simp [r])) q)) hf (Nat.le_refl _) new
    have k3 : ∀ c o, c ≠ z → h'.get? c = some o → h3.get? c = some o := fun c o r q => (sb.2 c r).trans q
    have lt : ∀ c ∈ [z, TI, TO, i1, i2], c < s.heap.objs.size := fun c hc => by
      obtain ⟨o1, e1, _⟩ := h1
      obtain ⟨o2, e2, _⟩ := h2
      have e' : c = z ∨ c = TI ∨ c = TO ∨ c = i1 ∨ c = i2 := by simpa using hc
      rcases e' with q | q | q | q | q <;> rw [q]
      · exact lz
      · exact Heap.lt_size hTI
      · exact Heap.lt_size hTO
      · exact Heap.lt_size e1
      · exact Heap.lt_size e2
    refine ⟨.ref s.heap.objs.size, _, J, rfl, ⟨_, x, y, rfl, I.hok.fresh (Nat.le_refl _), rfl, fun l hl => by rw [I.list_inj hl hqx]; exact hx, fun l hl => by rw [I.tuple_inj hl hqy]; exact hy⟩, ⟨hz3, k3 _ _ S.TIz (kp _ _ S.TIz S.TITO S.TIi1 S.TIi2 hTI), ⟨_, _, k3 _ _ S.TOz hTO'⟩, st1.1.at fun o q => k3 _ o S.zi1.symm q, st2.1.at fun o q => k3 _ o S.zi2.symm q⟩, fun c hcm => ?_⟩
    rw [upd_ne (Nat.ne_of_lt (lt c hcm))]
    exact (hf c hcm).1
  done := by
    intro X hP hw hK hc i pins s σ H E I hf ⟨hz, hTI, ⟨x0, y0, hTO⟩, h1, h2⟩ ⟨us, vs, hqx, hqy, g1, g2, hend⟩
    subst hP hw hK
    obtain ⟨its, rv, p, _⟩ := I.list hqx
    obtain ⟨its2, rv2, p2, _⟩ := I.tuple hqy
    have n1 : a ≠ i1 := fun e => absurd p.isList (fun ⟨o, eo, co, _⟩ => by obtain ⟨o', eo', co', _⟩ := h1; rw [e, eo'] at eo; cases eo; rw [co'] at co; exact absurd co (by decide))
    have n2 : b ≠ i2 := fun e => by obtain ⟨o, eo, co, _⟩ := p2; obtain ⟨o', eo', co', _⟩ := h2; rw [e, eo'] at eo; cases eo; rw [co'] at co; exact absurd co (by decide)
    have l1 := rv.length
    have l2 := rv2.length
    have D1 := Draws.list (prog := X.prog) (w := X.w) (A := X.A.in1) (show X.A.in1.handled = none from I.ok.hd hc) i1 a n1 its.toArray
    have D2 := Draws.tuple (prog := X.prog) (w := X.w) (A := X.A.in1) (show X.A.in1.handled = none from I.ok.hd hc) i2 b n2 its2.toArray
    refine wpAny_pyNext_zipD2_end S D1 D2 hz hTI hTO ⟨h1, p.isList⟩ ⟨h2, p2⟩ (by rw [List.size_toArray]; omega) (by rw [List.size_toArray]; omega) (by rw [List.size_toArray, List.size_toArray]; omega) fun h' tk kp => ⟨rfl, ?_⟩
    exact I.turnedL (t' := tk) (ch := [z, TI, TO, i1, i2]) (fun c o hb q => kp c o (fun r => hb (by simp [r])) (fun r => hb (by simp [r])) (fun r => hb (by simp [r])) (fun r => hb (by simp [r])) q) hf
  self := fun A i s Q E st h => wpAny_pyIter_zip st.1 h
def iZM (K : PySem.W.Frag) (ta : TA) : TI := fun σ H R => ta σ H fun vs H1 => ∃ a b xs ys, vs = [.ref a, .ref b] ∧ SqL K H1 a xs ∧ SqT K H1 b ys ∧ R (ItzM K a b) H1
theorem pi_zipM {X : Cx} {e e2 : Expr} {ta : TA} {p pos tpos : Pos} {elts : List Expr} {kk : Nat} (hg : Gl X "zip") (hm : X.mg "zip" = none) (ha : PA X [e, e2] ta)
    (hs : starEach [e, e2] X.env = (false, eval e X.env) :: starEach [e2] X.env) (hpl : (backTo pos (starEach [e2] X.env)).any (·.1) = false) : PI X (.Tuple elts kk tpos) (.Call (.Name "zip" p) [e, e2] [] pos) (iZM X.K ta) := by
  refine ⟨fun pins s σ H R I h => ?_⟩
  refine Call_ (ld_blt I hg hm PyProof.Rows.boot_zip (PyProof.Rows.callWith_type1 (thn (ha.run pos pins s σ H _ I h) fun us s1 ⟨vs, H1, I1, r1, a, b, xs, ys, ex, hqx, hqy, q⟩ => ?_) hs hpl))
  subst ex
  cases r1 with
  | cons r rr =>
    cases rr with
    | cons r' rr =>
      cases rr
      cases r
      cases r'
      obtain ⟨its, rv, p1, _⟩ := I1.list hqx
      obtain ⟨its2, rv2, p2, _⟩ := I1.tuple hqy
      obtain ⟨o2, ho2, _⟩ := id p2
      refine zip_begins2 (begins_list a its.toArray) (begins_tuple b its2.toArray) p1.isList p2 fun h' hz hTI hTO h1 h2 hsz kp => wpAny_pyIter_zip hz ?_
      have I2 : Inv X pins σ H1 { s1 with heap := h' } := I1.kept (t' := s1.toks) kp
      refine ⟨s1.heap.objs.size + 4, [s1.heap.objs.size + 4, s1.heap.objs.size + 2, s1.heap.objs.size + 3, s1.heap.objs.size, s1.heap.objs.size + 1], _, _, H1, rfl, I2, turn_zipM (zip_sep2 (fp1 := [a]) (fp2 := [b]) (fun c hc => by rw [List.mem_singleton.mp hc]; exact p1.lt) fun c hc => by rw [List.mem_singleton.mp hc]; exact Heap.lt_size ho2), ⟨hz, hTI, ⟨_, _, hTO⟩, ⟨_, h1, rfl, rfl⟩, ⟨_, h2, rfl, rfl⟩⟩, fun c hc => ?_, q⟩
      have e' : c = s1.heap.objs.size + 4 ∨ c = s1.heap.objs.size + 2 ∨ c = s1.heap.objs.size + 3 ∨ c = s1.heap.objs.size ∨ c = s1.heap.objs.size + 1 := by simpa using hc
      have hle : s1.heap.objs.size ≤ c := by rcases e' with r | r | r | r | r <;> rw [r] <;> first | exact Nat.le_add_right _ _ | exact Nat.le_refl _
      exact I1.fpOk hle (I1.hok.fresh hle)
def srcZM (a : Nat) (ys : List W) : Src := fun h i => match rdL h a with
  | some xs => match nthR xs i, nthR ys i with
    | some x, some y => some (some (.tup [x, y]))
    | _, _ => bif (Nat.ble i xs.length && Nat.ble i ys.length) && (Nat.beq i xs.length || Nat.beq i ys.length) then some none else none
  | none => none
theorem its_zipM {G : GC} {m : Nat → Addr} {n k : Nat} {H : Hp} {b : Addr} {vs : List V} {ys : List W} (hk : k < n) (s2 : SqT G.K H b vs) (q2 : RWs G m n H ys vs) : ItS G m n H (srcZM k ys) (ItzM G.K (m k) b) := by
  intro m' h' H' j rh old le tk kf
  simp only [srcZM]
  have s2' := tk.seq s2
  have q2' := q2.mono old le tk
  cases e1 : rdL h' k with
  | none => exact ⟨fun z => (by cases z), fun w z => (by cases z)⟩
  | some xs =>
    obtain ⟨us, s1, q1⟩ := rh.rd (Nat.lt_of_lt_of_le hk le) e1
    rw [old k hk] at s1
    simp only [nthR_eq]
    have fin : ((bif (Nat.ble j xs.length && Nat.ble j ys.length) && (Nat.beq j xs.length || Nat.beq j ys.length) then some none else none : Option (Option W)) = some none → (ItzM G.K (m k) b).stop j H') ∧ ∀ w, (bif (Nat.ble j xs.length && Nat.ble j ys.length) && (Nat.beq j xs.length || Nat.beq j ys.length) then some none else none : Option (Option W)) = some (some w) → (ItzM G.K (m k) b).go j H' ∧ ∀ x H'', (ItzM G.K (m k) b).yld j H' x H'' → RH G m' h' H'' ∧ Mv m' h'.nx H' m' h'.nx H'' ∧ RW G m' h'.nx H'' w x := by
      cases c : ((Nat.ble j xs.length && Nat.ble j ys.length) && (Nat.beq j xs.length || Nat.beq j ys.length)) with
      | false => exact ⟨fun z => (by cases z), fun w z => (by cases z)⟩
      | true =>
        simp only [Bool.and_eq_true, Bool.or_eq_true] at c
        refine ⟨fun _ => ⟨us, vs, s1, s2', ?_, ?_, ?_⟩, fun w z => (by cases z)⟩
        · rw [← q1.len]; exact Nat.le_of_ble_eq_true c.1.1
        · rw [← q2.len]; exact Nat.le_of_ble_eq_true c.1.2
        · rw [← q1.len, ← q2.len]; exact c.2.imp Nat.eq_of_beq_eq_true Nat.eq_of_beq_eq_true
    cases c1 : xs[j]? with
    | none => exact fin
    | some x =>
      cases c2 : ys[j]? with
      | none => exact fin
      | some y =>
        obtain ⟨u, a1, b1⟩ := q1.get c1
        obtain ⟨v, a2, b2⟩ := q2'.get c2
        refine ⟨fun z => (by cases z), fun w z => ?_⟩
        cases z
        refine ⟨⟨us, vs, u, v, s1, s2', a1, a2⟩, fun x' H'' yl => ?_⟩
        obtain ⟨T, p, r, rfl, hT, rfl, f1, f2⟩ := yl
        have := f1 us s1; rw [a1] at this; cases this
        have := f2 vs s2'; rw [a2] at this; cases this
        exact pair_new rh hT b1 b2
section
variable {X : Cx} {B : Bx} {a b : Expr} {fs : FA} {p pos tpos : Pos}
def iZMf (fs : FA) : FI := fun ρ h => (fs ρ h).bind fun ws h1 => match ws with
  | [.ref i, .tup ys] => match rdL h1 i with
    | some _ => .ok (srcZM i ys) h1
    | none => .no
  | _ => .no
theorem si_zipM {elts : List Expr} {kk : Nat} (hK : X.K = B.G.K) (hg : Gl X "zip") (hm : X.mg "zip" = none) (ha : SA X B [a, b] fs) (hs : starEach [a, b] X.env = (false, eval a X.env) :: starEach [b] X.env) (hpl : (backTo pos (starEach [b] X.env)).any (·.1) = false) :
    SI X B (.Tuple elts kk tpos) (.Call (.Name "zip" p) [a, b] [] pos) (iZMf fs) :=
  pi_imp (pi_zipM hg hm ha hs hpl) fun σ H R ⟨m, h, ρ, s, o⟩ => ⟨m, h, ρ, s, (Out.bind s.rh o).mono fun vs H1 ⟨ws, m1, h1, r1, v1, q1, o1⟩ => by
    match ws, o1 with
    | [.ref i, .tup ys], o1 =>
      obtain ⟨v, u, rfl, ra, rb⟩ := rws_two q1
      obtain ⟨rfl, hi⟩ := rw_ref ra
      obtain ⟨b, vs, rfl, s2, z2⟩ := rw_tup rb
      dsimp only at o1
      cases e1 : rdL h1 i with
      | none => rw [e1] at o1; exact o1.elim
      | some xs =>
        rw [e1] at o1
        obtain ⟨us, s1, _⟩ := r1.rd hi e1
        exact ⟨_, b, us, vs, rfl, by rw [hK]; exact s1, by rw [hK]; exact s2, by rw [hK]; exact o1 m1 H1 _ r1 Mv.refl (its_zipM hi s2 z2)⟩⟩
def ltR (fs : FA) : Rho → Hpe → Bool := fun ρ h => match fs ρ h with
  | .ok [.ref _, .tup _] _ => true
  | _ => false
end
end EV
namespace EV
open PySem PySem.Spec PyProof.Rows L2
structure SVt (X : Cx) (B : Bx) (es : List Expr) (f : FL) : Prop where
  run : ∀ (pos : Pos) (pins : List (Addr × Obj)) (s : Shared) (σ : L2.St) (H : Hp) (m : Nat → Addr) (h : Hpe) (ρ : Rho) (ws : List W) (K : List Value → Shared → Prop), Inv X pins σ H s → SS B.G B.cf m h ρ σ H → f ρ h = some ws →
    (∀ (s' : Shared) (us : List Value) (vs : List V), Inv X pins σ H s' → Vals vs us → RCs B.G B.cf m h.nx H ws vs → K us s') → wpAny (model X.prog X.w) X.A (spliced (backTo pos (starEach es X.env))) K X.xe s
structure SVC (X : Cx) (B : Bx) (es : List Expr) (f : FA) : Prop where
  run : ∀ (pos : Pos) (pins : List (Addr × Obj)) (s : Shared) (σ : L2.St) (H : Hp) (m : Nat → Addr) (h : Hpe) (ρ : Rho) (K : List Value → Shared → Prop), Inv X pins σ H s → SS B.G B.cf m h ρ σ H →
    (match f ρ h with
      | .ok ws h' => ∀ (m' : Nat → Addr) (H' : Hp) (s' : Shared) (us : List Value) (vs : List V), Inv X pins σ H' s' → RH B.G m' h' H' → Mv m h.nx H m' h'.nx H' → Vals vs us → RCs B.G B.cf m' h'.nx H' ws vs → K us s'
      | .ex x h' => ∀ m' H' c d, RH B.G m' h' H' → Mv m h.nx H m' h'.nx H' → ExR B.G B.cl m' h'.nx H' x c d → B.W c d σ H'
      | .no => False) → wpAny (model X.prog X.w) X.A (spliced (backTo pos (starEach es X.env))) K X.xe s
section
variable {X : Cx} {B : Bx} {e : Expr} {es : List Expr} {f : FL} {fe : FE} {fs : FA} {x : Str} {p pos : Pos} {i k n : Nat} {g : List W → Hpe → Res W}
end
end EV
namespace EV
open PySem PySem.Spec PyProof.Rows L2
section
variable {X : Cx} {B : Bx} {o value e : Expr} {es : List Expr} {name x : Str} {pos tpos p : Pos} {fo fv : FE} {fs : FA} {fl : FL} {cs : List Nat} {i : Nat}
end
end EV
namespace EV
open PySem PySem.Spec PyProof.Rows L2
def tDet (σ0 : L2.St) (H0 : Hp) (v : V) : TE := fun σ H Q => σ = σ0 ∧ H = H0 ∧ Q v H0
abbrev FQ := Rho → Hpe → Option W
structure SQ (X : Cx) (B : Bx) (e : Expr) (q : FQ) : Prop where
  run : ∀ (m : Nat → Addr) (h : Hpe) (ρ : Rho) (σ : L2.St) (H : Hp) (w : W), SS B.G B.cf m h ρ σ H → q ρ h = some w → ∃ v, PE X e (tDet σ H v) ∧ RC B.G B.cf m h.nx H w v
section
variable {X : Cx} {B : Bx} {a b e : Expr} {es : List Expr} {f : FL} {q : FQ} {x name : Str} {pos p : Pos} {i : Nat} {cs : List Nat}
end
section
variable {X : Cx} {B : Bx} {es : List Expr} {fs : FA} {x : Str} {p : Pos} {i : Nat}
end
end EV
namespace EV
open PySem PySem.Spec PyProof.Rows L2
section
variable {X : Cx} {pins : List (Addr × Obj)} {σ : L2.St} {H : Hp} {s : Shared} {a b : Addr} {xs : Dn} {k : NestedKey} {A : Around} {E : Value → Shared → Prop} {od : Obj}
end
def rdF (h : Hpe) (n : Nat) : Option (List (W × W)) := match h.get n with
  | some (.fn kvs) => some kvs
  | _ => none
section
variable {X : Cx} {G : GC} {m : Nat → Addr} {h : Hpe} {H : Hp}
theorem RH.fn (r : RH G m h H) {i : Nat} {kvs : List (W × W)} (hi : i < h.nx) (e : rdF h i = some kvs) : ∃ od xs, H (m i) = some (.frz od (dnO G.prog G.wo (m i) xs)) ∧ DnR G m h.nx H kvs xs := by
  obtain ⟨o, ho, q1, q2, q3⟩ := r.obj i hi
  unfold rdF at e
  rw [q1] at e
  cases q3 with
  | fn a b c d => cases e; exact ⟨_, _, q2, a, b, c, d⟩
  | _ => cases e
end
section
variable {X : Cx} {B : Bx} {a b : Expr} {fa fb : FE} {pos : Pos}
end
section
variable {X : Cx}
end
section
variable {X : Cx} {B : Bx} {e : Expr} {fs : FA} {p pos : Pos}
end
end EV
namespace EV
open PySem PySem.Spec PyProof.Rows L2
section
variable {X : Cx} {pins : List (Addr × Obj)} {σ : L2.St} {H : Hp} {s : Shared}
end
section
variable {G : GC} {m : Nat → Addr} {n : Nat} {H : Hp}
end
section
variable {X : Cx} {B : Bx} {e : Expr} {fs : FA} {p pos : Pos}
end
end EV
namespace EV
open PySem PySem.Spec PyProof.Rows L2
section
variable {A : Around} {elt tg iter tg1 iter1 : Expr} {ifs ifs1 : List Expr} {scope : Scope} {pos : Pos} {it it1 acc : Value} {env : Env} {k : Result → Sem PySem.Fin} {g : Bool} {l : List Value} {p : Pos}
end
end EV
namespace EV
open PySem PySem.Spec PyProof.Rows L2
section
variable {prog : Program} {w : World} {A : Around} {elt tg iter tg1 iter1 : Expr} {ifs ifs1 : List Expr} {scope : Scope} {pos : Pos} {it : Value} {cenv : Env} {ι : Type}
end
end EV
namespace EV
open PySem PySem.Spec PyProof.Rows L2
section
variable {prog : Program} {w : World} {A : Around} {elt tg iter tg1 iter1 : Expr} {ifs ifs1 : List Expr} {scope : Scope} {pos : Pos} {it : Value} {cenv : Env} {ι : Type}
end
end EV
namespace EV
open PySem PySem.Spec PyProof.Rows L2 GxR
section
variable {M : Model} {A : Around} {E : Value → Shared → Prop} {s : Shared} {env : Env} {elt tg iter tg1 iter1 : Expr} {ifs ifs1 : List Expr} {scope : Scope} {cl : List (Str × Addr)} {pos : Pos} {Q : Value → Shared → Prop}
end
end EV
namespace EV
open PySem PySem.Spec PyProof.Rows L2 GxR
structure Ix2 where
  it : Addr
  fp : List Addr
  tn : Nat → Heap → Prop
  J : It
  W : Nat → Nat → Hp → Prop
  i : Nat
  sg : L2.St
  h : Heap
section
variable {Y : Cx} {tg tg1 elt iter iter1 : Expr} {ifs ifs1 : List Expr} {al : Bool} {wi1 : TI} {g g1 : TG} {tt tt1 : TT} {te : TE} {fp : List Addr} {it : Addr} {tn : Nat → Heap → Prop} {J : It} {W : Nat → Nat → Hp → Prop} {Q0 Q1 : Hp → Prop} {σ : L2.St} {vs vs1 : List Nat} {Fin Stop : Shared → Prop}
end
end EV
namespace EV
open PySem PySem.Spec PyProof.Rows L2 GxR
section
variable {X : Cx} {c P : Addr} {elt tg iter tg1 iter1 : Expr} {ifs ifs1 : List Expr} {scope : Scope} {own : List (Str × Nat)} {gpos : Pos} {wi wi1 : TI} {g g1 : TG} {tt tt1 : TT} {te : TE} {k : Nat} {vs1 : List Nat}
end
end EV
namespace EV
open PySem PySem.Spec PyProof.Rows L2 GxR
section
variable {X : Cx} {B : Bx} {tg tg1 elt iter iter1 : Expr} {ifs ifs1 : List Expr} {fe : FE} {ft ft1 : FT} {fi fi1 : FI} {g g1 : FG} {us us1 vs vs1 : List Nat} {c P : Addr} {scope : Scope} {own : List (Str × Nat)} {p pos gpos : Pos} {k : Nat}
end
end EV
namespace EV
open PySem PySem.Spec PyProof.Rows L2
section
variable {X : Cx} {pins : List (Addr × Obj)} {σ : L2.St} {H : Hp} {s : Shared} {a : Addr} {vs : List V}
end
section
variable {X : Cx} {o : Expr} {p pos apos mpos : Pos} {td : TE}
end
section
variable {X : Cx} {B : Bx} {o : Expr} {p pos apos mpos : Pos} {fo : FE}
end
end EV
namespace EV
open PySem PySem.Spec PyProof.Rows L2
section
variable {X : Cx} {B : Bx} {tg a b c : Expr} {fs : FA} {p : Pos}
end
end EV
namespace EV
open PySem PySem.Spec PyProof.Rows L2
section
variable {X : Cx} {B : Bx} {o : Expr} {to : TE} {fo : FE} {name : Str} {pos : Pos} {cs : List Nat}
end
end EV
namespace EV
open PySem PySem.Spec PyProof.Rows L2
section
variable {X : Cx} {B : Bx} {e : Expr} {es : List Expr} {fl : FL} {name x : Str} {p pos cpos rpos : Pos} {i k n kk : Nat} {g : List W → Hpe → Res W} {t : CTx} {c P : Addr} {params : Arguments} {body : List Stmt} {scope : Scope} {js : List Nat} {ps : List Str}
end
end EV
namespace EV
open PySem PySem.Spec PyProof.Rows L2
section
variable {X : Cx}
end
section
variable {X : Cx} {B : Bx} {e : Expr} {fs : FA} {p pos : Pos}
end
end EV
namespace EV
open PySem
theorem us0 {p : List Value → Prop} {us : List Value} (h : us.length = 0) (f : p []) : p us := by
  cases us with
  | nil => exact f
  | cons _ _ => cases h
theorem us1 {p : List Value → Prop} {us : List Value} (h : us.length = 1) (f : ∀ a0 : Value, p [a0]) : p us := by
  cases us with
  | nil => cases h
  | cons a us => exact us0 (p := fun us => p (a :: us)) (Nat.succ.inj h) (f a)
end EV
namespace EV
open PySem PySem.Spec PyProof.Rows L2
section
variable {prog : Program} {w : World} {A : Around} {E : Value → Shared → Prop} {s : Shared} {T : String} {r d : Addr} {n : Nat} {P : Nat → Value → Prop} {OK : Heap → Prop}
end
section
variable {X : Cx}
end
section
variable {X : Cx} {B : Bx} {e : Expr} {fs : FA} {pos p : Pos}
end
end EV
namespace EV
open PySem PySem.Spec PyProof.Rows L2
end EV
namespace EV
open PySem PySem.Spec PyProof.Rows L2
section
variable {X : Cx}
end
section
variable {X : Cx} {B : Bx} {e : Expr} {fs : FA} {pos p : Pos}
end
end EV
namespace EV
open PySem PySem.Spec PyProof.Rows L2 RZ
def ItzT (K : PySem.W.Frag) (a b : Addr) : It :=
  ⟨fun i H => ∃ (xs ys : List V) (x y : V), SqT K H a xs ∧ SqL K H b ys ∧ xs[i]? = some x ∧ ys[i]? = some y,
    fun i H v H' => ∃ T x y, v = .ref T ∧ H T = none ∧ H' = upd H T (.tup [x, y]) ∧ (∀ xs, SqT K H a xs → xs[i]? = some x) ∧ ∀ ys, SqL K H b ys → ys[i]? = some y,
    fun i H => ∃ xs ys : List V, SqT K H a xs ∧ SqL K H b ys ∧ i ≤ xs.length ∧ i ≤ ys.length ∧ (i = xs.length ∨ i = ys.length)⟩
section
variable {X : Cx} {B : Bx} {a b : Expr} {fs : FA} {p pos tpos : Pos}
end
end EV
namespace EV
open PySem PySem.Spec PyProof.Rows L2
abbrev gMd : W → W → Hpe → Res W := gI (fun _ j => decide (0 < j)) fun i j => i % j
abbrev gDv : W → W → Hpe → Res W := gI cDiv fun i j => i / j
def uTake : FS :=
    (sSeq (sIf (asB (e2 (gB0 fun i j => decide (j < i)) (e2 gIx2 (eV 0) (eK (.int 0))) (eK (.int 0)))) (sSeq (sAs (e2 gMd (eBl bInt (aC (e2 gIx2 (eV 0) (eK (.int 0))) aN)) (eV 1)) (gN 2))
      (sSeq (sAs (e2 gDv (e2 gIx2 (eV 0) (eK (.int 0))) (eV 1)) (gSb2 (eV 0) (eK (.int 0))))
      (sSeq (sRt (eV 2))
      sNil))) sNil)
      (sSeq (sAs (e2 gAdd (e2 gIx2 (eV 0) (eK (.int 2))) (eK (.int 1))) (gSb2 (eV 0) (eK (.int 2))))
      (sSeq (sAs (e2 gMd (eBl bInt (aC (e2 gMul (e2 gAdd (e2 gIx2 (eV 0) (eK (.int 1))) (e2 gMul (eK (.int 48271)) (e2 gIx2 (eV 0) (eK (.int 2))))) (e2 gAdd (eK (.int 39373)) (e2 gIx2 (eV 0) (eK (.int 2))))) aN)) (eK (.int 2147483647))) (gN 3))
      (sSeq (sAs (e2 gAdd (e2 gMd (eBl bInt (aC (eV 3) aN)) (eK (.int 40009))) (eK (.int 7))) (gN 4))
      (sSeq (sAs (e2 gMd (eBl bInt (aC (e2 gMul (e2 gAdd (e2 gAdd (eV 3) (e2 gIx2 (eV 0) (eK (.int 2)))) (e2 gDv (e2 gIx2 (eV 0) (eK (.int 1))) (eK (.int 1000003)))) (eV 4)) aN)) (eK (.int 2147483629))) (gN 5))
      (sSeq (sRt (e2 gMd (eBl bInt (aC (e2 gDv (e2 gMd (eBl bInt (aC (e2 gAdd (e2 gMul (eV 5) (eK (.int 48271))) (eV 3)) aN)) (eK (.int 2147483587))) (eK (.int 64))) aN)) (eV 1)))
      sNil))))))
def uCells : FS :=
    (sSeq (sAs (eOrT (eBl bLst3 (aC (eSl (eV 0) oN (oS (eV 1))) aN)) (eLst (aC (eK (.int 0)) aN))) (gN 2))
      (sSeq (sFor (iOr (tupR (aC (eSl (eV 0) (oS (eV 1)) (oS (eK (.int 63)))) aN)) (iET (aC (eSl (eV 0) (oS (eV 1)) (oS (eK (.int 63)))) aN)) (iEL (aC (eSl (eV 0) (oS (eV 1)) (oS (eK (.int 63)))) aN))) (gTL 2 (gsC (gN 3) (gsC (gN 4) gsN))) (sSeq (sAs (e2 gMd (eBl bInt (aC (eV 3) aN)) (eV 1)) (gN 5))
      (sSeq (sAs (e2 gAdd (e2 gIx2 (eV 2) (eV 5)) (e2 gMul (eV 4) (e2 gAdd (eV 3) (eK (.int 2))))) (gSb2 (eV 2) (eV 5)))
      sNil)))
      (sSeq (sRt (eV 2))
      sNil)))
def uBox (c : Int) : FS :=
  (sSeq (sAs (eIf (asB (e2 (gB0 fun i j => decide (i < j)) (eV 1) (eBl bLen3 (aC (eV 0) aN)))) (e2 gIx2 (eV 0) (eV 1)) (eK (.int 0))) (gN 2))
      (sSeq (sRt (eLst (aC (e2 gMul (eBl bAbs (aC (eV 2) aN)) (eBl bInt (aC (e2 (gB0 fun i j => decide (j ≤ i)) (eBl bAbs (aC (eV 2) aN)) (e2 (gI cPow fun i j => i ^ j.toNat) (eK (.int 10)) (eK (.int 18)))) aN))) (aC (e2 gAdd (e2 gAdd (e2 gMd (eBl bInt (aC (eV 2) aN)) (eK (.int 2305843009213693951))) (e2 gMul (eK (.int 39373)) (eV 1))) (eK (.int c))) (aC (eK (.int 0)) aN)))))
      sNil))
section
variable {h h1 h2 : Hpe} {n : Nat} {i j : Int} {ws : List W} {w : W} {ρ : Rho}
theorem md_ok (p : 0 < j) : gMd (.int i) (.int j) h = .ok (.int (i % j)) h := by
  show (bif decide (0 < j) then Res.ok (W.int (i % j)) h else .no) = _
  rw [decide_eq_true p]
  rfl
theorem dv_ok (p : 0 < j) (q : j < 1073741824) : gDv (.int i) (.int j) h = .ok (.int (i / j)) h := by
  show (bif cDiv i j then Res.ok (W.int (i / j)) h else .no) = _
  rw [show cDiv i j = true by unfold cDiv; rw [decide_eq_true p, decide_eq_true q]; rfl]
  rfl
theorem mul_R (p : -18446744073709551616 < j) (q : j < 18446744073709551616) : gMul (.int i) (.int j) h = .ok (.int (i * j)) h := by
  show (bif cMul i j then Res.ok (W.int (i * j)) h else .no) = _
  rw [show cMul i j = true by unfold cMul; rw [decide_eq_true p, decide_eq_true q]; simp]
  rfl
theorem mul_L (p : -18446744073709551616 < i) (q : i < 18446744073709551616) : gMul (.int i) (.int j) h = .ok (.int (i * j)) h := by
  show (bif cMul i j then Res.ok (W.int (i * j)) h else .no) = _
  rw [show cMul i j = true by unfold cMul; rw [decide_eq_true p, decide_eq_true q]; simp]
  rfl
theorem rdL_of (g : h.get n = some (.lst ws)) : rdL h n = some ws := by
  unfold rdL
  rw [g]
theorem ix_lst (g : h.get n = some (.lst ws)) (e : atI ws j = some w) : gIx2 (.ref n) (.int j) h = .ok w h := by
  have z : rdN h n = none := by unfold rdN; rw [g]
  have k : rdQ h n = none := by unfold rdQ; rw [g]
  have x : gIx (.ref n) (.int j) h = .ok w h := by
    unfold gIx
    dsimp only
    rw [rdL_of g]
    dsimp only
    rw [e]
  unfold gIx2
  dsimp only
  rw [z, k]
  exact x
theorem put_lst {l : Nat} (g : h.get n = some (.lst ws)) (e : ixN ws.length j = some l) : putO (.ref n) (.int j) w h = some (h.set n (.lst (ws.set l w))) := by
  have z : rdN h n = none := by unfold rdN; rw [g]
  have k : rdK h n = none := by unfold rdK; rw [g]
  have x : putL n (.int j) w h = some (h.set n (.lst (ws.set l w))) := by
    unfold putL
    dsimp only
    rw [g]
    dsimp only
    rw [e]
  unfold putO
  dsimp only
  rw [z, k]
  exact x
theorem set_get (o : Ob) (p : n + 1 < 2199023255552) : (h.set n o).get n = some o := put_same 41 h.t n o p
theorem set_old (o : Ob) {k : Nat} (p : k ≠ n) : (h.set n o).get k = h.get k := put_ne 41 h.t n k o p
theorem new_get (o : Ob) (p : h.nx + 1 < 2199023255552) : (h.new o).get h.nx = some o := put_same 41 h.t h.nx o p
theorem new_old (o : Ob) {k : Nat} (p : k ≠ h.nx) : (h.new o).get k = h.get k := put_ne 41 h.t h.nx k o p
theorem sif_yes' {t : FT} {s1 s2 : FS} (e : t ρ h = .ok true h1) : sIf t s1 s2 ρ h = s1 ρ h1 := by
  show bindS (t ρ h) ρ (fun b h1 => bif b then s1 ρ h1 else s2 ρ h1) = _
  rw [e]
  rfl
theorem asB_eq {f : FE} {b : Bool} (e : f ρ h = .ok (.bl b) h1) : asB f ρ h = .ok b h1 := by
  show ((f ρ h).bind fun w h1 => match w with | .bl b => .ok b h1 | _ => .no) = _
  rw [e]
  rfl
theorem sas_sb {f fo fi : FE} {l : Nat} {h3 : Hpe} (e : f ρ h = .ok w h1) (eo : fo ρ h1 = .ok (.ref n) h2) (ei : fi ρ h2 = .ok (.int j) h3) (g : h3.get n = some (.lst ws)) (el : ixN ws.length j = some l) : sAs f (gSb2 fo fi) ρ h = .nx ρ (h3.set n (.lst (ws.set l w))) := by
  show bindS (f ρ h) ρ (fun w h1 => (gSb2 fo fi w ρ h1).cl) = _
  rw [e]
  show (bindS (fo ρ h1) ρ fun u h1 => bindS (fi ρ h1) ρ fun k h2 => match putO u k w h2 with | some h3 => RS.nx ρ h3 | none => .no).cl = _
  rw [eo]
  show (bindS (fi ρ h2) ρ fun k h2 => match putO (.ref n) k w h2 with | some h3 => RS.nx ρ h3 | none => .no).cl = _
  rw [ei]
  show (match putO (.ref n) (.int j) w h3 with | some h3 => RS.nx ρ h3 | none => .no).cl = _
  rw [put_lst g el]
  rfl
end
theorem take_ok {h : Hpe} {n : Nat} {a b c low : Int} (g : h.get n = some (.lst [.int a, .int b, .int c])) (hn : n + 1 < 2199023255552) (l0 : 0 < low) (l1 : low < 1073741824) (c0 : 0 ≤ c) (c1 : c < 1000000000) :
    ∃ t a' c' : Int, 0 ≤ t ∧ t < low ∧ c ≤ c' ∧ c' ≤ c + 1 ∧ runB 6 uTake [.ref n, .int low] h = .ok (.int t) (h.set n (.lst [.int a', .int b, .int c'])) := by
  have s0 : ∀ ρ : Rho, eV 0 (some (.ref n) :: ρ) h = .ok (.ref n) h := fun _ => rfl
  have ix0 : ∀ ρ : Rho, e2 gIx2 (eV 0) (eK (.int 0)) (some (.ref n) :: ρ) h = .ok (.int a) h := fun ρ => (e2_ok (s0 ρ) rfl).trans (ix_lst g rfl)
  have cnd : asB (e2 (gB0 fun i j => decide (j < i)) (e2 gIx2 (eV 0) (eK (.int 0))) (eK (.int 0))) [some (.ref n), some (.int low), none, none, none, none] h = .ok (decide (0 < a)) h := asB_eq ((e2_ok (b := .int 0) (h2 := h) (ix0 _) rfl).trans rfl)
  by_cases pa : 0 < a
  · rw [decide_eq_true pa] at cnd
    refine ⟨a % low, a / low, c, Int.emod_nonneg _ (by omega), Int.emod_lt_of_pos _ l0, by omega, by omega, ?_⟩
    refine run_rt (n := 6) (ws := [.ref n, .int low]) ?_
    show uTake [some (.ref n), some (.int low), none, none, none, none] h = _
    unfold uTake
    refine seq_rt ((sif_yes' cnd).trans ?_)
    refine (seq_nx (sas_n (w := .int (a % low)) (h1 := h) ((e2_ok (a := .int a) (b := .int low) (h1 := h) (h2 := h) ((bl_1 (ix0 _)).trans rfl) rfl).trans (md_ok l0)))).trans ?_
    refine (seq_nx (sas_sb (l := 0) (j := 0) ((e2_ok (b := .int low) (h2 := h) (ix0 _) rfl).trans (dv_ok l0 l1)) rfl rfl g rfl)).trans ?_
    exact seq_rt (srt_ok rfl)
  · rw [decide_eq_false pa] at cnd
    have g1 : (h.set n (.lst [.int a, .int b, .int (c + 1)])).get n = some (.lst [.int a, .int b, .int (c + 1)]) := set_get _ hn
    refine ⟨((((((b + 48271 * (c + 1)) * (39373 + (c + 1))) % 2147483647 + (c + 1) + b / 1000003) * (((b + 48271 * (c + 1)) * (39373 + (c + 1))) % 2147483647 % 40009 + 7)) % 2147483629 * 48271 + ((b + 48271 * (c + 1)) * (39373 + (c + 1))) % 2147483647) % 2147483587 / 64) % low, a, c + 1, Int.emod_nonneg _ (by omega), Int.emod_lt_of_pos _ l0, by omega, by omega, ?_⟩
    generalize eh : h.set n (.lst [.int a, .int b, .int (c + 1)]) = h' at g1 ⊢
    have jx1 : ∀ ρ : Rho, e2 gIx2 (eV 0) (eK (.int 1)) (some (.ref n) :: ρ) h' = .ok (.int b) h' := fun ρ => (e2_ok (a := .ref n) (b := .int 1) (h1 := h') (h2 := h') rfl rfl).trans (ix_lst g1 rfl)
    have jx2 : ∀ ρ : Rho, e2 gIx2 (eV 0) (eK (.int 2)) (some (.ref n) :: ρ) h' = .ok (.int (c + 1)) h' := fun ρ => (e2_ok (a := .ref n) (b := .int 2) (h1 := h') (h2 := h') rfl rfl).trans (ix_lst g1 rfl)
    refine run_rt (n := 6) (ws := [.ref n, .int low]) ?_
    show uTake [some (.ref n), some (.int low), none, none, none, none] h = _
    unfold uTake
    refine (seq_nx ((sif_no cnd).trans rfl)).trans ?_
    have st1 : sAs (e2 gAdd (e2 gIx2 (eV 0) (eK (.int 2))) (eK (.int 1))) (gSb2 (eV 0) (eK (.int 2))) [some (.ref n), some (.int low), none, none, none, none] h = .nx [some (.ref n), some (.int low), none, none, none, none] h' := by
      rw [← eh]
      exact sas_sb (l := 2) (j := 2) (w := .int (c + 1)) ((e2_ok (a := .int c) (b := .int 1) (h1 := h) (h2 := h) ((e2_ok (s0 _) rfl).trans (ix_lst g rfl)) rfl).trans rfl) (s0 _) rfl g rfl
    refine (seq_nx st1).trans ?_
    refine (seq_nx (sas_n (w := .int (((b + 48271 * (c + 1)) * (39373 + (c + 1))) % 2147483647)) (h1 := h') ((e2_ok (b := .int 2147483647) (h2 := h') ((bl_1 ((e2_ok ((e2_ok (b := .int (48271 * (c + 1))) (h2 := h') (jx1 _) ((e2_ok (a := .int 48271) (h1 := h') rfl (jx2 _)).trans (mul_L (by decide) (by decide)))).trans rfl) ((e2_ok (a := .int 39373) (h1 := h') rfl (jx2 _)).trans rfl)).trans (mul_R (by omega) (by omega)))).trans rfl) rfl).trans (md_ok (by decide))))).trans ?_
    generalize ((b + 48271 * (c + 1)) * (39373 + (c + 1))) % 2147483647 = o1
    refine (seq_nx (sas_n (w := .int (o1 % 40009 + 7)) (h1 := h') ((e2_ok (b := .int 7) (h2 := h') ((e2_ok (a := .int o1) (b := .int 40009) (h1 := h') (h2 := h') rfl rfl).trans (md_ok (by decide))) rfl).trans rfl))).trans ?_
    have w2 : 0 ≤ o1 % 40009 + 7 ∧ o1 % 40009 + 7 < 40016 := ⟨by omega, by omega⟩
    generalize o1 % 40009 + 7 = o2 at w2 ⊢
    refine (seq_nx (sas_n (w := .int (((o1 + (c + 1) + b / 1000003) * o2) % 2147483629)) (h1 := h') ((e2_ok (b := .int 2147483629) (h2 := h') ((bl_1 ((e2_ok (b := .int o2) (h2 := h') ((e2_ok ((e2_ok (a := .int o1) (h1 := h') rfl (jx2 _)).trans rfl) ((e2_ok (b := .int 1000003) (h2 := h') (jx1 _) rfl).trans (dv_ok (by decide) (by decide)))).trans rfl) rfl).trans (mul_R (by omega) (by omega)))).trans rfl) rfl).trans (md_ok (by decide))))).trans ?_
    generalize ((o1 + (c + 1) + b / 1000003) * o2) % 2147483629 = o3
    refine seq_rt (srt_ok ?_)
    refine (e2_ok (a := .int ((o3 * 48271 + o1) % 2147483587 / 64)) (b := .int low) (h1 := h') (h2 := h') ((bl_1 ((e2_ok (b := .int 64) (h2 := h') ((e2_ok (a := .int (o3 * 48271 + o1)) (b := .int 2147483587) (h1 := h') (h2 := h') ((bl_1 ((e2_ok (a := .int (o3 * 48271)) (b := .int o1) (h1 := h') (h2 := h') ((e2_ok (a := .int o3) (b := .int 48271) (h1 := h') (h2 := h') rfl rfl).trans (mul_R (by decide) (by decide))) rfl).trans rfl)).trans rfl) rfl).trans (md_ok (by decide))) rfl).trans (dv_ok (by decide) (by decide)))).trans rfl) rfl).trans (md_ok l0)
theorem forE_nx {src : Src} {g : FG} {b : FS} {k i : Nat} {ρ ρ1 ρ2 : Rho} {h h1 h2 : Hpe} {w : W} (e : src h i = some (some w)) (eg : g w ρ h = .nx ρ1 h1) (eb : b ρ1 h1 = .nx ρ2 h2) : forE src g b (k + 1) i ρ h = forE src g b k (i + 1) ρ2 h2 := by
  rw [forE, e]
  dsimp only
  rw [eg]
  dsimp only
  rw [eb]
theorem forE_end {src : Src} {g : FG} {b : FS} {k i : Nat} {ρ : Rho} {h : Hpe} (e : src h i = some none) : forE src g b (k + 1) i ρ h = .nx ρ h := by
  rw [forE, e]
def cellsB : FS := sSeq (sAs (e2 gMd (eBl bInt (aC (eV 3) aN)) (eV 1)) (gN 5)) (sSeq (sAs (e2 gAdd (e2 gIx2 (eV 2) (eV 5)) (e2 gMul (eV 4) (e2 gAdd (eV 3) (eK (.int 2))))) (gSb2 (eV 2) (eV 5))) sNil)
section
variable (o : Ob) (x z y i : Int) (sl : List W) (u3 u4 u5 : Option W) (w : W)
end
theorem cut_map (ns : List Int) (lo hi : Option Int) : ∃ xs : List Int, cutW (ns.map W.int) lo hi = xs.map W.int ∧ xs.length ≤ ns.length := by
  refine ⟨(ns.drop (HT.sIx (ns.map W.int).length 0 lo)).take (HT.sIx (ns.map W.int).length (ns.map W.int).length hi - HT.sIx (ns.map W.int).length 0 lo), ?_, ?_⟩
  · unfold cutW
    rw [List.map_take, List.map_drop]
  · rw [List.length_take, List.length_drop]
    omega
theorem sl_ok {f : FE} {fl fh : FO} {ρ : Rho} {h h1 h2 h3 : Hpe} {n : Nat} {lo hi : Option Int} {ws : List W} (e : f ρ h = .ok (.ref n) h1) (el : fl ρ h1 = .ok lo h2) (eh : fh ρ h2 = .ok hi h3) (g : rdL h3 n = some ws) : eSl f fl fh ρ h = h3.al (.lst (cutW ws lo hi)) := by
  unfold eSl
  rw [e]
  show ((fl ρ h1).bind fun lo h2 => (fh ρ h2).bind fun hi h3 => match rdL h3 n with
    | some ws => h3.al (.lst (cutW ws lo hi))
    | none => .no) = _
  rw [el]
  show ((fh ρ h2).bind fun hi h3 => match rdL h3 n with
    | some ws => h3.al (.lst (cutW ws lo hi))
    | none => .no) = _
  rw [eh]
  show (match rdL h3 n with
    | some ws => h3.al (.lst (cutW ws lo hi))
    | none => .no) = _
  rw [g]
theorem ac_ok {f : FE} {fs : FA} {ρ : Rho} {w : W} {ws : List W} {h h1 h2 : Hpe} (e : f ρ h = .ok w h1) (es : fs ρ h1 = .ok ws h2) : aC f fs ρ h = .ok (w :: ws) h2 := by
  unfold aC
  rw [e]
  show ((fs ρ h1).bind fun ws h2 => Res.ok (w :: ws) h2) = _
  rw [es]
  rfl
theorem lst_ok {fs : FA} {ρ : Rho} {ws : List W} {h h1 : Hpe} (e : fs ρ h = .ok ws h1) (l : line ws.length = true) : eLst fs ρ h = h1.al (.lst ws) := by
  unfold eLst
  rw [e]
  show (bif line ws.length then h1.al (.lst ws) else .no) = _
  rw [l]
  rfl
theorem cl_ok {n : Nat} {g : List W → Hpe → Res W} {fs : FA} {ρ : Rho} {ws : List W} {h h1 : Hpe} (e : fs ρ h = .ok ws h1) (l : ws.length = n) : eCl n g fs ρ h = g ws h1 := by
  unfold eCl
  rw [e]
  show (bif Nat.beq ws.length n then g ws h1 else .no) = _
  rw [beq_t l]
  rfl
theorem orT_of {fa fb : FE} {ρ : Rho} {w : W} {h h1 : Hpe} (e : fa ρ h = .ok w h1) : eOrT fa fb ρ h = (match truW w h1 with
    | some true => .ok w h1
    | some false => fb ρ h1
    | none => .no) := by
  show ((fa ρ h).bind fun w h1 => match truW w h1 with
    | some true => .ok w h1
    | some false => fb ρ h1
    | none => .no) = _
  rw [e]
  rfl
theorem sfor_ok {fi : FI} {g : FG} {b : FS} {ρ : Rho} {h h1 : Hpe} {src : Src} (e : fi ρ h = .ok src h1) : sFor fi g b ρ h = forE src g b 1000000 0 ρ h1 := by
  unfold sFor
  rw [e]
  rfl
def cellsI : FI := iOr (tupR (aC (eSl (eV 0) (oS (eV 1)) (oS (eK (.int 63)))) aN)) (iET (aC (eSl (eV 0) (oS (eV 1)) (oS (eK (.int 63)))) aN)) (iEL (aC (eSl (eV 0) (oS (eV 1)) (oS (eK (.int 63)))) aN))
theorem cellsI_ok {ρ : Rho} {h h1 : Hpe} {n : Nat} {ws : List W} (e : eSl (eV 0) (oS (eV 1)) (oS (eK (.int 63))) ρ h = .ok (.ref n) h1) (g : rdL h1 n = some ws) : cellsI ρ h = .ok (srcE (.ref n)) h1 := by
  have a : aC (eSl (eV 0) (oS (eV 1)) (oS (eK (.int 63)))) aN ρ h = .ok [.ref n] h1 := by
    unfold aC
    rw [e]
    rfl
  unfold cellsI iOr tupR
  rw [a]
  show iEL (aC (eSl (eV 0) (oS (eV 1)) (oS (eK (.int 63)))) aN) ρ h = _
  unfold iEL
  rw [a]
  show (match rdL h1 n with
    | some _ => Res.ok (srcE (.ref n)) h1
    | _ => .no) = _
  rw [g]
end EV
namespace EV
open PySem PySem.Spec PyProof.Rows L2
section
variable {T : Nat → List W → Hpe → Res W} {kb kc kt : Nat}
def UrnAt (h : Hpe) (n : Nat) (c : Int) : Prop := ∃ a b c' : Int, h.get n = some (.lst [.int a, .int b, .int c']) ∧ 0 ≤ c' ∧ c' ≤ c
theorem len_lst {h : Hpe} {m : Nat} {ws : List W} (g : h.get m = some (.lst ws)) : bLen3 [.ref m] h = .ok (.int ((ws.length : Nat) : Int)) h := by
  have r : bLen [.ref m] h = .ok (.int ((ws.length : Nat) : Int)) h := by
    show (match rdL h m with | some ws => Res.ok (W.int ws.length) h | none => .no) = _
    rw [rdL_of g]
  unfold bLen3
  dsimp only
  rw [g]
  exact r
theorem atI_pos {ws : List W} {i : Nat} (hi : i < ws.length) : atI ws ((i : Nat) : Int) = some ws[i] := by
  unfold atI ixN
  have c1 : ¬ ((i : Int) < 0) := by omega
  simp [hi]
end
end EV
namespace EV
open PySem PySem.Spec PyProof.Rows L2
section
variable {T : Nat → List W → Hpe → Res W} {kb kc kt : Nat}
end
end EV
namespace EV
open PySem PySem.Spec PyProof.Rows L2
section
variable {X : Cx} {B : Bx} {pos : Pos}
theorem se_w (i : Nat) {x : Str} (hN : X.N[i]? = some x := by rfl) (hv : Vis X.env.scope x := by first | exact Or.inl rfl | exact Or.inr (Or.inl rfl) | exact Or.inr (Or.inr rfl)) (hd : (x == ("__debug__" : Str)) = false := by decide) (hcd : (x == ("__classdict__" : Str)) = false := by decide) : SE X B (.Name x pos) (eV i) := se_v i hN hv hd hcd
end
end EV
namespace EV
open PySem PySem.Spec PyProof.Rows L2
section
variable {X : Cx} {B : Bx} {k lv i n : Nat} {T : Nat → List W → Hpe → Res W} {g : List W → Hpe → Res W} {x : Str} {p pos : Pos} {e : Expr} {es : List Expr} {fs : FA}
end
end EV
namespace EV
open PySem PySem.Spec PyProof.Rows L2
def blankO : Option W → Option W
  | some w => bif noRef w then some w else none
  | none => none
def blankR (ρ : Rho) : Rho := ρ.map blankO
section
variable {G : GC} {cf : CF} {m : Nat → Addr} {h : Hpe} {H : Hp} {ρ : Rho} {σ : L2.St}
variable {X : Cx} {B : Bx} {e : Expr} {f : FE}
end
end EV
namespace EV
open PySem PySem.Spec PyProof.Rows L2
section
variable {X : Cx} {pins : List (Addr × Obj)} {σ : L2.St} {H : Hp} {s : Shared} {a C dx : Addr} {B newId initId : String} {bm : List Value}
end
section
variable {X : Cx} {e : Expr} {es : List Expr} {ta : TA} {x : Str} {p1 p2 pos : Pos} {B newId initId : String} {bm : List Value}
end
def spT (K : PySem.W.Frag) (C : Addr) (f : Str) : Sp := fun vs H Q _ => ∃ (a b : Addr) (l : List Int), vs = [.ref a, .ref b] ∧ SqT K H b (l.map L2.V.int) ∧ (∀ y ∈ l, y.natAbs.log2 < 1920) ∧ l.length ≤ 1000 ∧ H a = some (exo a C none) ∧
  ∀ dx, H dx = none → dx ≠ a → Q .non (upd (upd H dx (exd dx [(f, .ref b)])) a (exo a C (some dx)))
structure ExT (P : Program) (w : World) (K : PySem.W.Frag) (mg : Str → Option Value) (base : Heap) (cl : Cls) (x f : Str) (k : Nat) : Prop where
  ex : ∃ C B newId initId bm fI fd ps, BaseE B newId initId bm ∧ OwnE K C newId bm ∧ mg x = some (.ref C) ∧ cl k = some (.ref C) ∧ PySem.W.findIn K (.ref C) "__init__" = some (some (.ref fI)) ∧ PySem.W.typeIn K (.ref fI) = some (.type "function") ∧
    FnOk P w K mg base (L2.CX P w) 1 fI fd ps (spT K C f) ∧ Binds K fd ps []
section
variable {X : Cx} {B : Bx} {e : Expr} {es : List Expr} {fs : FA} {p pos pos' : Pos} {x f : Str} {k j : Nat}
end
section
open PySem.W
variable {P : Program} {w : World} {K : PySem.W.Frag} {mg : Str → Option Value} {base h : Heap} {Cs : List Addr} {C : Addr} {k : Nat} {x f : Str}
end
end EV
namespace EV
open PySem PySem.Spec PyProof.Rows L2
section
variable {X : Cx} {B : Bx} {a b : Expr} {fa fb : FE} {pos : Pos}
end
end EV
namespace EV
open PySem PySem.Spec PyProof.Rows L2
section
variable {X : Cx} {B : Bx} {e o : Expr} {es : List Expr} {fo f : FE} {fs : FA} {apos cpos : Pos}
end
end EV
namespace EV
open PySem PySem.Spec PyProof.Rows L2
section
variable {X : Cx} {B : Bx} {e : Expr} {es : List Expr} {fs : FA} {p pos : Pos} {x f : Str} {k j : Nat}
end
section
variable {X : Cx} {B : Bx} {a t : Expr} {f : FE} {p pos : Pos} {tb : List (Nat × Bool)} {cv : Value} {vt : L2.V}
end
end EV
namespace EV
open PySem PySem.Spec PyProof.Rows L2 PySem.HandSPX PySem.W PySem.Calls
section
variable {C N : Addr} {nm q : Str} {bm bs bmB : List Value} {hdct ab : Bool} {sn : List Str} {sub : List Value} {col : Option Bool} {dd : Option Addr} {k0 k1 k2 k3 k5 : Option Value} {B initId newId : String} {kw : List (Str × Value)}
variable {w : World} {prog : Program} {M : Model} {A : Around} {R : Result → Shared → Prop} {E : Value → Shared → Prop} {g : Array GenState} {h : Heap} {d : Drawn} {t : Nat} {os : OsState}
end
end EV
namespace EV
open PySem PySem.Spec PyProof.Rows L2
section
variable {X : Cx} {e : Expr} {ta : TA} {x pm : Str} {p pos : Pos} {B newId initId : String} {bm : List Value} {kws : List Keyword}
end
end EV
namespace EV
open PySem PySem.Spec PyProof.Rows L2
def BindK (fd : FuncData) (pm : Str) : Prop := ∀ (s : Shared) (a u : Value), BindsTo s fd ⟨[a], [(pm, u)]⟩ [("self", a), (pm, u)]
structure ExIK (P : Program) (w : World) (K : PySem.W.Frag) (mg : Str → Option Value) (base : Heap) (cl : Cls) (x f pm : Str) (k : Nat) : Prop where
  ex : ∃ C B newId initId bm fI fd, BaseE B newId initId bm ∧ OwnE K C newId bm ∧ mg x = some (.ref C) ∧ cl k = some (.ref C) ∧ PySem.W.findIn K (.ref C) "__init__" = some (some (.ref fI)) ∧ PySem.W.typeIn K (.ref fI) = some (.type "function") ∧
    FnOk P w K mg base (L2.CX P w) 1 fI fd ["self", pm] (spI C f) ∧ BindK fd pm
structure ExTK (P : Program) (w : World) (K : PySem.W.Frag) (mg : Str → Option Value) (base : Heap) (cl : Cls) (x f pm : Str) (k : Nat) : Prop where
  ex : ∃ C B newId initId bm fI fd, BaseE B newId initId bm ∧ OwnE K C newId bm ∧ mg x = some (.ref C) ∧ cl k = some (.ref C) ∧ PySem.W.findIn K (.ref C) "__init__" = some (some (.ref fI)) ∧ PySem.W.typeIn K (.ref fI) = some (.type "function") ∧
    FnOk P w K mg base (L2.CX P w) 1 fI fd ["self", pm] (spT K C f) ∧ BindK fd pm
section
variable {X : Cx} {B : Bx} {fs : FA} {p pos pos' : Pos} {x f pm : Str} {k j : Nat} {kws : List Keyword}
end
section
open PySem.W
variable {P : Program} {w : World} {K : PySem.W.Frag} {mg : Str → Option Value} {base h : Heap} {Cs : List Addr} {C : Addr} {k : Nat} {x f pm : Str}
end
end EV
namespace EV
open PySem PySem.Spec PyProof.Rows L2
theorem SS.back {G : GC} {cf : CF} {m m' : Nat → Addr} {h h' : Hpe} {H H' : Hp} {ρ ρ' : Rho} {σ σ' : L2.St} (s : SS G cf m h ρ σ H) (s' : SS G cf m' h' ρ' σ' H') (mv : Mv m Hpe.nil.nx H m' h'.nx H') : SS G cf m h (blankR ρ') σ' H' where
  rh := s.rh.back s'.rh mv
  len := by unfold blankR; rw [List.length_map]; exact s'.len
  sl := fun i w e => by
    unfold blankR at e
    rw [List.getElem?_map] at e
    cases q : ρ'[i]? with
    | none => rw [q] at e; cases e
    | some o =>
      rw [q] at e
      cases o with
      | none => cases e
      | some w0 =>
        simp only [Option.map_some, blankO] at e
        cases d : noRef w0 with
        | false => rw [d] at e; cases e
        | true =>
          rw [d] at e
          cases e
          obtain ⟨v, e1, r⟩ := s'.sl i w q
          refine ⟨v, e1, ?_⟩
          cases r with
          | rw r => exact .rw (r.free d)
          | clo _ _ => cases d
end EV
namespace EV
open PySem PySem.Builtin PySem.Builtin.Str PySem.StrLaws
end EV
namespace EV
open PySem PySem.Spec PyProof.Rows L2
section
variable {X : Cx} {B : Bx} {a b e o : Expr} {es : List Expr} {fa fb f : FE} {fs : List FE} {apos cpos pos p : Pos}
inductive SJ (X : Cx) (B : Bx) : List Expr → List FE → Prop where
  | nil : SJ X B [] []
  | cons {e : Expr} {f : FE} {es : List Expr} {fs : List FE} (h : SE X B e f) (r : SJ X B es fs) : SJ X B (e :: es) (f :: fs)
end
end EV
namespace EV
open PySem PySem.Spec PyProof.Rows L2
section
variable {X : Cx} {B : Bx} {a b c e o tg : Expr} {es : List Expr} {st : Stmt} {sts : List Stmt} {fa fb f fo : FE} {ft : FT} {fs : FA} {fi : FI} {g : FG} {us : List Nat} {s1 s2 s3 : FS} {y z : Str} {j k : Nat} {c0 c1 apos pos p p1 p2 : Pos}
end
structure FnT (P : Program) (w : World) (K : PySem.W.Frag) (mg : Str → Option Value) (base : Heap) (k : Nat) (f : Addr) (fd : FuncData) (ps : List Str) (G : GC) (cl : Cls) (g : List W → Hpe → Res W) : Prop where
  run : ∀ (A : Around) (outer : List PySem.Env) (s : Shared) (H : Hp) (args : Args) (us : List Value) (vs : List V) (Q : VK) (E : XK), 1 ≤ s.toks → Room k A → Env0 P w K mg base A outer s H → BindsTo s fd args (ps.zip us) → Vals vs us →
    spE G cl ps.length g vs H Q E → codeAny (model P w) A (.call (.ref f) args) (CR (L2.CX P w) outer P w H s Q E) s
structure DfT (P : Program) (w : World) (K : PySem.W.Frag) (mg : Str → Option Value) (base : Heap) (G : GC) (cl : Cls) (x : Str) (ps : List Str) (k : Nat) (g : List W → Hpe → Res W) : Prop where
  ex : ∃ f fd, FnT P w K mg base k f fd ps G cl g ∧ mg x = some (.ref f) ∧ PySem.W.keepIn K (.ref f) = true ∧ Binds K fd ps []
section
variable {P : Program} {w : World} {K : PySem.W.Frag} {mg : Str → Option Value} {base : Heap} {G : GC} {cl : Cls} {n : Str} {st : Stmt} {ps : List Str} {k : Nat} {g : List W → Hpe → Res W}
end
end EV
namespace EV
open PySem PySem.Spec PyProof.Rows L2
section
variable {X : Cx} {B : Bx} {e o : Expr} {es : List Expr} {fo : FE} {fs : FA} {apos cpos pos p : Pos}
section
variable (hK : X.K = B.G.K) (ho : SE X B o fo) (ha : SA X B (e :: es) fs)
    (hfew : ((backTo cpos (starEach (e :: es) X.env)).all (fun x => !x.1) && (backToKw cpos (keywordEach [] X.env)).all (fun x => x.1.isSome)
      && decide ((e :: es).length + ([] : List Keyword).length + (if ([] : List Keyword).isEmpty then 0 else 1) < 30)) = true)
    (hline : (apos.endLine == cpos.line) = true) (hst : starEach (e :: es) X.env = (false, eval e X.env) :: starEach es X.env) (hplain : (backTo cpos (starEach es X.env)).any (·.1) = false)
include hK ho ha hfew hline hst hplain
end
section
variable (hm : X.mg "int" = none) (hg : Gl X "int")
end
end
end EV
namespace EV
open PySem PySem.Spec PyProof.Rows L2
end EV
namespace EV
open PySem PySem.Spec PyProof.Rows L2
section
variable {X : Cx} {B : Bx} {a b e : Expr} {es : List Expr} {fa fb : FE} {fs : FA} {apos cpos p pos : Pos} {x : Str} {kvs : List (Str × Int)}
end
end EV
namespace EV
open PySem PySem.Spec PyProof.Rows L2
section
variable {X : Cx} {B : Bx} {a b : Expr} {fa fb : FE} {pos : Pos}
end
section
variable {X : Cx} {B : Bx} {e : Expr} {fs : FA} {pos p : Pos}
end
end EV
namespace EV
open PySem PySem.Spec PyProof.Rows L2
end EV
namespace EV
open PySem PySem.Spec PyProof.Rows L2
section
variable {X : Cx} {B : Bx} {a b : Expr} {fa fb : FE} {pos : Pos}
end
end EV
namespace L02
open PySem PySem.Spec PyProof.Rows L2 EV
def top (i : Nat) : Stmt := PySem.Challenge.pw_unwound_k02_whole_words_and_their_roots.main.body.getD i (.Pass ⟨0, 0, 0, 0⟩)
abbrev Tab := Nat → List W → Hpe → Res W
abbrev s_frozen : Stmt := top 4
theorem sc_frozen : FnScope ["value", "wholes", "waiting", "whole", "within", "part", "done", "many", "items"] ["value"] (defScope s_frozen) := ⟨rfl, rfl, rfl, by decide +kernel, rfl, by decide +kernel, by decide +kernel⟩
def F_frozen (T : Tab) : FS :=
    (sSeq (sIf (tNt (asT (eCl 1 (T 1) (aC (eV 0) aN)))) (sSeq (sRt (eV 0))
      sNil) sNil)
      (sSeq (sPar 1 2 (aC (eLst aN) (aC (eLst (aC (eV 0) aN)) aN)))
      (sSeq (sWh (asT (eV 2)) (sSeq (sAs (eMt0 chkL mPop (eV 2)) (gN 3))
      (sSeq (sUn (sAs (eLc (iV3 (eV 3)) (gN 5) (asT (eIs2 Kd.list Kd.tuple (eV 5))) (eV 5) [5]) (gN 4)))
      (sSeq (sEx (eMt chkL mApp (eV 1) (aC (eTup (aC (eV 3) (aC (eBl bLen3 (aC (eV 4) aN)) aN))) aN)))
      (sSeq (sEx (eMt chkL mExt (eV 2) (aC (eRev2 (eV 4)) aN)))
      sNil)))))
      (sSeq (sAs (eLst aN) (gN 6))
      (sSeq (sFor (iRv (eV 1)) (gTL 2 (gsC (gN 3) (gsC (gN 7) gsN))) (sSeq (sIf (asB (e2 (gEq false) (eV 7) (eK (.int 0)))) (sSeq (sEx (eMt chkL mApp (eV 6) (aC (eBl bTup (aC (eV 3) aN)) aN)))
      sNil) (sSeq (sUn (sAs (eLc (iV3 (eV 3)) (gN 5) tYs (eIf (asT (eIs2 Kd.list Kd.tuple (eV 5))) (eMt0 chkL mPop (eV 6)) (eV 5)) [5]) (gN 8)))
      (sSeq (sEx (eMt chkL mApp (eV 6) (aC (eBl bTup (aC (eV 8) aN)) aN)))
      sNil)))
      sNil))
      (sSeq (sRt (e2 gIx2 (eV 6) (eK (.int 0))))
      sNil))))))
abbrev s__holds_list : Stmt := top 5
theorem sc__holds_list : FnScope ["value", "waiting", "whole", "part"] ["value"] (defScope s__holds_list) := ⟨rfl, rfl, rfl, by decide +kernel, rfl, by decide +kernel, by decide +kernel⟩
def F__holds_list (T : Tab) : FS :=
    (sSeq (sIf (tNt (asT (eIs Kd.tuple (eV 0)))) (sSeq (sRt (eIs Kd.list (eV 0)))
      sNil) sNil)
      (sSeq (sAs (eLst (aC (eV 0) aN)) (gN 1))
      (sSeq (sWh (asT (eV 1)) (sSeq (sAs (eMt0 chkL mPop (eV 1)) (gN 2))
      (sSeq (sUn (sFor (iV3 (eV 2)) (gN 3) (sSeq (sIf (asT (eIs Kd.tuple (eV 3))) (sSeq (sEx (eMt chkL mApp (eV 1) (aC (eV 3) aN)))
      sNil) (sSeq (sIf (asT (eIs Kd.list (eV 3))) (sSeq (sRt (eK (.bl true)))
      sNil) sNil)
      sNil))
      sNil)))
      sNil)))
      (sSeq (sRt (eK (.bl false)))
      sNil))))
abbrev s_word_power : Stmt := top 7
theorem sc_word_power : FnScope ["word", "many"] ["word", "many"] (defScope s_word_power) := ⟨rfl, rfl, rfl, by decide +kernel, rfl, by decide +kernel, by decide +kernel⟩
def F_word_power (T : Tab) : FS :=
    (sSeq (sRt (e2 gMul (eCl 1 (T 0) (aC (eV 0) aN)) (eV 1)))
      sNil)
abbrev s_root_of : Stmt := top 8
theorem sc_root_of : FnScope ["word", "whole", "size"] ["word"] (defScope s_root_of) := ⟨rfl, rfl, rfl, by decide +kernel, rfl, by decide +kernel, by decide +kernel⟩
def F_root_of (T : Tab) : FS :=
    (sSeq (sAs (eCl 1 (T 0) (aC (eV 0) aN)) (gN 1))
      (sSeq (sIf (tNt (asT (eV 1))) (sSeq (sRs 1)
      sNil) sNil)
      (sSeq (sAs (eK (.int 1)) (gN 2))
      (sSeq (sWh (tOr' (asB (e2 (gEq true) (e2 (gI (fun _ j => decide (0 < j)) fun i j => i % j) (eBl bLen3 (aC (eV 1) aN)) (eV 2)) (eK (.int 0)))) (asB (e2 (gEq true) (e2 gMul (eSl (eV 1) oN (oS (eV 2))) (e2 (gI cDiv fun i j => i / j) (eBl bLen3 (aC (eV 1) aN)) (eV 2))) (eV 1)))) (sSeq (sAu 2 (eK (.int 1)) (gI0 fun i j => i + j))
      sNil))
      (sSeq (sRt (eTup (aC (eSl (eV 1) oN (oS (eV 2))) (aC (e2 (gI cDiv fun i j => i / j) (eBl bLen3 (aC (eV 1) aN)) (eV 2)) aN))))
      sNil)))))
abbrev s_commute : Stmt := top 9
theorem sc_commute : FnScope ["word", "other", "one", "two"] ["word", "other"] (defScope s_commute) := ⟨rfl, rfl, rfl, by decide +kernel, rfl, by decide +kernel, by decide +kernel⟩
def F_commute (T : Tab) : FS :=
    (sSeq (sPar 2 3 (aC (eCl 1 (T 0) (aC (eV 0) aN)) (aC (eCl 1 (T 0) (aC (eV 1) aN)) aN)))
      (sSeq (sRt (e2 (gEq false) (e2 gAdd (eV 2) (eV 3)) (e2 gAdd (eV 3) (eV 2))))
      sNil))
abbrev s_common_root : Stmt := top 10
theorem sc_common_root : FnScope ["words", "filled_ones", "word", "root"] ["words"] (defScope s_common_root) := ⟨rfl, rfl, rfl, by decide +kernel, rfl, by decide +kernel, by decide +kernel⟩
def F_common_root (T : Tab) : FS :=
    (sSeq (sUn (sAs (eLc (iV3 (eCl 1 (T 0) (aC (eV 0) aN))) (gN 2) (asT (eV 2)) (eV 2) [2]) (gN 1)))
      (sSeq (sIf (tNt (asT (eV 1))) (sSeq (sRt (eTup aN))
      sNil) sNil)
      (sSeq (sAs (e2 gIx2 (eCl 1 (T 3) (aC (e2 gIx2 (eV 1) (eK (.int 0))) aN)) (eK (.int 0))) (gN 3))
      (sSeq (sUn (sIf (tNt (asT (eGn true (iV3 (eV 1)) (gN 2) tYs (eCl 2 (T 4) (aC (eV 3) (aC (eV 2) aN))) [2]))) (sSeq (sRs 0)
      sNil) sNil))
      (sSeq (sRt (eV 3))
      sNil)))))
abbrev s_turned : Stmt := top 11
theorem sc_turned : FnScope ["word", "many", "whole", "first"] ["word", "many"] (defScope s_turned) := ⟨rfl, rfl, rfl, by decide +kernel, rfl, by decide +kernel, by decide +kernel⟩
def F_turned (T : Tab) : FS :=
    (sSeq (sAs (eCl 1 (T 0) (aC (eV 0) aN)) (gN 2))
      (sSeq (sIf (tNt (asT (eV 2))) (sSeq (sRt (eTup aN))
      sNil) sNil)
      (sSeq (sAs (e2 (gI (fun _ j => decide (0 < j)) fun i j => i % j) (eV 1) (eBl bLen3 (aC (eV 2) aN))) (gN 3))
      (sSeq (sRt (e2 gAdd (eSl (eV 2) (oS (eV 3)) oN) (eSl (eV 2) oN (oS (eV 3)))))
      sNil))))
abbrev s_piece_of : Stmt := top 12
theorem sc_piece_of : FnScope ["row", "start", "many", "whole", "first", "times"] ["row", "start", "many"] (defScope s_piece_of) := ⟨rfl, rfl, rfl, by decide +kernel, rfl, by decide +kernel, by decide +kernel⟩
def F_piece_of (T : Tab) : FS :=
    (sSeq (sAs (eCl 1 (T 0) (aC (eV 0) aN)) (gN 3))
      (sSeq (sIf (tNt (asT (eV 3))) (sSeq (sRs 1)
      sNil) sNil)
      (sSeq (sAs (e2 (gI (fun _ j => decide (0 < j)) fun i j => i % j) (eV 1) (eBl bLen3 (aC (eV 3) aN))) (gN 4))
      (sSeq (sAs (e2 gAdd (e2 (gI cDiv fun i j => i / j) (e2 gAdd (eV 4) (eV 2)) (eBl bLen3 (aC (eV 3) aN))) (eK (.int 1))) (gN 5))
      (sSeq (sRt (eSl (e2 gMul (eV 3) (eV 5)) (oS (eV 4)) (oS (e2 gAdd (eV 4) (eV 2)))))
      sNil)))))
abbrev s_is_piece : Stmt := top 13
theorem sc_is_piece : FnScope ["row", "start", "word", "whole"] ["row", "start", "word"] (defScope s_is_piece) := ⟨rfl, rfl, rfl, by decide +kernel, rfl, by decide +kernel, by decide +kernel⟩
def F_is_piece (T : Tab) : FS :=
    (sSeq (sAs (eCl 1 (T 0) (aC (eV 2) aN)) (gN 3))
      (sSeq (sRt (e2 (gEq false) (eCl 3 (T 7) (aC (eV 0) (aC (eV 1) (aC (eBl bLen3 (aC (eV 3) aN)) aN)))) (eV 3)))
      sNil))
abbrev s_first_apart : Stmt := top 14
theorem sc_first_apart : FnScope ["word", "other", "place", "step", "second"] ["word", "other"] (defScope s_first_apart) := ⟨rfl, rfl, rfl, by decide +kernel, rfl, by decide +kernel, by decide +kernel⟩
def F_first_apart (T : Tab) : FS :=
    (sSeq (sFor (iOr (tupR (aC (eCl 1 (T 0) (aC (eV 0) aN)) (aC (eCl 1 (T 0) (aC (eV 1) aN)) aN))) (iEZf (aC (eCl 1 (T 0) (aC (eV 0) aN)) (aC (eCl 1 (T 0) (aC (eV 1) aN)) aN))) (iEZLf (aC (eCl 1 (T 0) (aC (eV 0) aN)) (aC (eCl 1 (T 0) (aC (eV 1) aN)) aN)))) (gTL 2 (gsC (gN 2) (gsC (gTL 2 (gsC (gN 3) (gsC (gN 4) gsN))) gsN))) (sSeq (sIf (asB (e2 (gEq true) (eV 3) (eV 4))) (sSeq (sRt (eV 2))
      sNil) sNil)
      sNil))
      (sSeq (sRt (eK .non))
      sNil))
abbrev s__law_box : Stmt := top 16
theorem sc__law_box : FnScope ["script", "k", "cell"] ["script", "k"] (defScope s__law_box) := ⟨rfl, rfl, rfl, by decide +kernel, rfl, by decide +kernel, by decide +kernel⟩
def F__law_box (T : Tab) : FS :=
    (sSeq (sAs (eIf (asB (e2 (gB0 fun i j => decide (i < j)) (eV 1) (eBl bLen3 (aC (eV 0) aN)))) (e2 gIx2 (eV 0) (eV 1)) (eK (.int 0))) (gN 2))
      (sSeq (sRt (eLst (aC (e2 gMul (eBl bAbs (aC (eV 2) aN)) (eBl bInt (aC (e2 (gB0 fun i j => decide (j ≤ i)) (eBl bAbs (aC (eV 2) aN)) (e2 (gI cPow fun i j => i ^ j.toNat) (eK (.int 10)) (eK (.int 18)))) aN))) (aC (e2 gAdd (e2 gAdd (e2 (gI (fun _ j => decide (0 < j)) fun i j => i % j) (eBl bInt (aC (eV 2) aN)) (eK (.int 2305843009213693951))) (e2 gMul (eK (.int 39373)) (eV 1))) (eK (.int 96812))) (aC (eK (.int 0)) aN)))))
      sNil))
abbrev s__law_take : Stmt := top 17
theorem sc__law_take : FnScope ["urn", "low_so", "drawn", "once", "far", "twice"] ["urn", "low_so"] (defScope s__law_take) := ⟨rfl, rfl, rfl, by decide +kernel, rfl, by decide +kernel, by decide +kernel⟩
def F__law_take (T : Tab) : FS :=
    (sSeq (sIf (asB (e2 (gB0 fun i j => decide (j < i)) (e2 gIx2 (eV 0) (eK (.int 0))) (eK (.int 0)))) (sSeq (sAs (e2 (gI (fun _ j => decide (0 < j)) fun i j => i % j) (eBl bInt (aC (e2 gIx2 (eV 0) (eK (.int 0))) aN)) (eV 1)) (gN 2))
      (sSeq (sAs (e2 (gI cDiv fun i j => i / j) (e2 gIx2 (eV 0) (eK (.int 0))) (eV 1)) (gSb2 (eV 0) (eK (.int 0))))
      (sSeq (sRt (eV 2))
      sNil))) sNil)
      (sSeq (sAs (e2 gAdd (e2 gIx2 (eV 0) (eK (.int 2))) (eK (.int 1))) (gSb2 (eV 0) (eK (.int 2))))
      (sSeq (sAs (e2 (gI (fun _ j => decide (0 < j)) fun i j => i % j) (eBl bInt (aC (e2 gMul (e2 gAdd (e2 gIx2 (eV 0) (eK (.int 1))) (e2 gMul (eK (.int 48271)) (e2 gIx2 (eV 0) (eK (.int 2))))) (e2 gAdd (eK (.int 39373)) (e2 gIx2 (eV 0) (eK (.int 2))))) aN)) (eK (.int 2147483647))) (gN 3))
      (sSeq (sAs (e2 gAdd (e2 (gI (fun _ j => decide (0 < j)) fun i j => i % j) (eBl bInt (aC (eV 3) aN)) (eK (.int 40009))) (eK (.int 7))) (gN 4))
      (sSeq (sAs (e2 (gI (fun _ j => decide (0 < j)) fun i j => i % j) (eBl bInt (aC (e2 gMul (e2 gAdd (e2 gAdd (eV 3) (e2 gIx2 (eV 0) (eK (.int 2)))) (e2 (gI cDiv fun i j => i / j) (e2 gIx2 (eV 0) (eK (.int 1))) (eK (.int 1000003)))) (eV 4)) aN)) (eK (.int 2147483629))) (gN 5))
      (sSeq (sRt (e2 (gI (fun _ j => decide (0 < j)) fun i j => i % j) (eBl bInt (aC (e2 (gI cDiv fun i j => i / j) (e2 (gI (fun _ j => decide (0 < j)) fun i j => i % j) (eBl bInt (aC (e2 gAdd (e2 gMul (eV 5) (eK (.int 48271))) (eV 3)) aN)) (eK (.int 2147483587))) (eK (.int 64))) aN)) (eV 1)))
      sNil))))))
abbrev s__law_cells : Stmt := top 18
theorem sc__law_cells : FnScope ["script", "top", "cells", "k", "cell", "at_so"] ["script", "top"] (defScope s__law_cells) := ⟨rfl, rfl, rfl, by decide +kernel, rfl, by decide +kernel, by decide +kernel⟩
def F__law_cells (T : Tab) : FS :=
    (sSeq (sAs (eOrT (eBl bLst3 (aC (eSl (eV 0) oN (oS (eV 1))) aN)) (eLst (aC (eK (.int 0)) aN))) (gN 2))
      (sSeq (sFor (iOr (tupR (aC (eSl (eV 0) (oS (eV 1)) (oS (eK (.int 63)))) aN)) (iET (aC (eSl (eV 0) (oS (eV 1)) (oS (eK (.int 63)))) aN)) (iEL (aC (eSl (eV 0) (oS (eV 1)) (oS (eK (.int 63)))) aN))) (gTL 2 (gsC (gN 3) (gsC (gN 4) gsN))) (sSeq (sAs (e2 (gI (fun _ j => decide (0 < j)) fun i j => i % j) (eBl bInt (aC (eV 3) aN)) (eV 1)) (gN 5))
      (sSeq (sAs (e2 gAdd (e2 gIx2 (eV 2) (eV 5)) (e2 gMul (eV 4) (e2 gAdd (eV 3) (eK (.int 2))))) (gSb2 (eV 2) (eV 5)))
      sNil)))
      (sSeq (sRt (eV 2))
      sNil)))
abbrev s__law_same : Stmt := top 19
theorem sc__law_same : FnScope ["got", "goal", "mine_so", "own"] ["got", "goal"] (defScope s__law_same) := ⟨rfl, rfl, rfl, by decide +kernel, rfl, by decide +kernel, by decide +kernel⟩
def F__law_same (T : Tab) : FS :=
    (sSeq (sIf (asT (eIs2 Kd.list Kd.tuple (eV 1))) (sSeq (sIf (tOr' (asB (e2 (gEq true) (eIs Kd.list (eV 0)) (eIs Kd.list (eV 1)))) (asB (e2 (gEq true) (eIs Kd.tuple (eV 0)) (eIs Kd.tuple (eV 1))))) (sSeq (sRt (eK (.bl false)))
      sNil) sNil)
      (sSeq (sRt (eAn (e2 (gEq false) (eBl bLen3 (aC (eV 0) aN)) (eBl bLen3 (aC (eV 1) aN))) (eBl (bAllAny fun bs => bs.all id) (aC (eComp (.lst []) (iOr (ltR (aC (eV 0) (aC (eV 1) aN))) (iZMf (aC (eV 0) (aC (eV 1) aN))) (iZ (aC (eV 0) (aC (eV 1) aN)))) (gTL 2 (gsC (gN 2) (gsC (gN 3) gsN))) tYs (moreL (eCl 2 (T 13) (aC (eV 2) (aC (eV 3) aN)))) [2, 3]) aN))))
      sNil)) sNil)
      (sSeq (sIf (tOr' (asB (e2 (gIsN false) (eV 1) (eK .non))) (asT (eIs2 Kd.bool Kd.str (eV 1)))) (sSeq (sRt (eAn (e2 (gEq false) (eV 0) (eV 1)) (eAn (e2 (gEq false) (eIs Kd.bool (eV 0)) (eIs Kd.bool (eV 1))) (e2 (gEq false) (e2 (gIsN false) (eV 0) (eK .non)) (e2 (gIsN false) (eV 1) (eK .non))))))
      sNil) sNil)
      (sSeq (sRt (eAn (eIs Kd.int (eV 0)) (eAn (eNtT (eIs Kd.bool (eV 0))) (e2 (gEq false) (eV 0) (eV 1)))))
      sNil)))
abbrev s__law_word : Stmt := top 20
theorem sc__law_word : FnScope ["urn", "most", "kinds_so", "k"] ["urn", "most", "kinds_so"] (defScope s__law_word) := ⟨rfl, rfl, rfl, by decide +kernel, rfl, by decide +kernel, by decide +kernel⟩
def F__law_word (T : Tab) : FS :=
    (sSeq (sRt (eBl bTup (aC (eComp (.lst []) (iR1 (aC (eCl 2 (T 11) (aC (eV 0) (aC (e2 gAdd (eV 1) (eK (.int 1))) aN))) aN)) (gN 3) tYs (moreL (eCl 2 (T 11) (aC (eV 0) (aC (eV 2) aN)))) [3]) aN)))
      sNil)
abbrev s__law_root : Stmt := top 21
theorem sc__law_root : FnScope ["word", "size", "k"] ["word"] (defScope s__law_root) := ⟨rfl, rfl, rfl, by decide +kernel, rfl, by decide +kernel, by decide +kernel⟩
def F__law_root (T : Tab) : FS :=
    (sSeq (sFor (iR2 (aC (eK (.int 1)) (aC (e2 gAdd (eBl bLen3 (aC (eV 0) aN)) (eK (.int 1))) aN))) (gN 1) (sSeq (sIf (tAn (asB (e2 (gEq false) (e2 (gI (fun _ j => decide (0 < j)) fun i j => i % j) (eBl bLen3 (aC (eV 0) aN)) (eV 1)) (eK (.int 0)))) (asT (eBl (bAllAny fun bs => bs.all id) (aC (eLc (iR1 (aC (eBl bLen3 (aC (eV 0) aN)) aN)) (gN 2) tYs (e2 (gEq false) (e2 gIx2 (eV 0) (eV 2)) (e2 gIx2 (eV 0) (e2 (gI (fun _ j => decide (0 < j)) fun i j => i % j) (eV 2) (eV 1)))) [2]) aN)))) (sSeq (sRt (eTup (aC (eSl (eV 0) oN (oS (eV 1))) (aC (e2 (gI cDiv fun i j => i / j) (eBl bLen3 (aC (eV 0) aN)) (eV 1)) aN))))
      sNil) sNil)
      sNil))
      (sSeq (sRt (eK .non))
      sNil))
abbrev s__law_common : Stmt := top 22
theorem sc__law_common : FnScope ["words_so"] ["words_so"] (defScope s__law_common) := ⟨rfl, rfl, rfl, by decide +kernel, rfl, by decide +kernel, by decide +kernel⟩
def F__law_common (T : Tab) : FS :=
    (sSeq (sTry (sSeq (sRt (eCl 1 (T 5) (aC (eV 0) aN)))
      sNil) [(0, (sSeq (sRt (eLst (aC (eK (.str "none")) aN)))
      sNil))])
      sNil)
abbrev s__law_right : Stmt := top 23
theorem sc__law_right : FnScope ["urn", "base", "one", "other", "third", "root", "many", "heard", "due", "own", "like", "far", "rows_so", "k", "spot", "full", "alike", "start", "turn", "piece"] ["urn"] (defScope s__law_right) := ⟨rfl, rfl, rfl, by decide +kernel, rfl, by decide +kernel, by decide +kernel⟩
def F__law_right (T : Tab) : FS :=
    (sSeq (sAs (e2 gAdd (eCl 3 (T 14) (aC (eV 0) (aC (eK (.int 3)) (aC (eK (.int 2)) aN)))) (eTup (aC (eCl 2 (T 11) (aC (eV 0) (aC (eK (.int 2)) aN))) aN))) (gN 1))
      (sSeq (sAs (e2 gMul (eV 1) (e2 gAdd (eK (.int 1)) (eCl 2 (T 11) (aC (eV 0) (aC (eK (.int 4)) aN))))) (gN 2))
      (sSeq (sAs (eIf (asB (e2 (gEq false) (eCl 2 (T 11) (aC (eV 0) (aC (eK (.int 2)) aN))) (eK (.int 0)))) (e2 gMul (eV 1) (eCl 2 (T 11) (aC (eV 0) (aC (eK (.int 4)) aN)))) (eCl 3 (T 14) (aC (eV 0) (aC (eK (.int 6)) (aC (eK (.int 2)) aN))))) (gN 3))
      (sSeq (sAs (eIf (asB (e2 (gEq false) (eCl 2 (T 11) (aC (eV 0) (aC (eK (.int 3)) aN))) (eK (.int 0)))) (eCl 3 (T 14) (aC (eV 0) (aC (eK (.int 4)) (aC (eK (.int 2)) aN)))) (e2 gMul (eV 1) (eCl 2 (T 11) (aC (eV 0) (aC (eK (.int 3)) aN))))) (gN 4))
      (sSeq (sAs (eTup (aC (eCl 1 (T 15) (aC (eV 2) aN)) (aC (eCl 2 (T 11) (aC (eV 0) (aC (eK (.int 7)) aN))) aN))) (gTL 2 (gsC (gN 5) (gsC (gN 6) gsN))))
      (sSeq (sPar 7 8 (aC (eLst (aC (eCl 1 (T 3) (aC (eV 2) aN)) (aC (eCl 2 (T 2) (aC (e2 gIx2 (eV 5) (eK (.int 0))) (aC (e2 gIx2 (eV 5) (eK (.int 1))) aN))) (aC (eCl 2 (T 2) (aC (eV 3) (aC (eV 6) aN))) aN)))) (aC (eLst (aC (eV 5) (aC (eV 2) (aC (e2 gMul (eV 3) (eV 6)) aN)))) aN)))
      (sSeq (sFor (iV3 (eTup (aC (eV 3) (aC (eV 4) aN)))) (gN 9) (sSeq (sAs (eOrT (e2 (gEq false) (eV 9) (eTup aN)) (e2 (gEq false) (e2 gIx2 (eCl 1 (T 15) (aC (eV 9) aN)) (eK (.int 0))) (e2 gIx2 (eV 5) (eK (.int 0))))) (gN 10))
      (sSeq (sAs (e2 gAdd (eBl bLen3 (aC (eV 2) aN)) (eBl bLen3 (aC (eV 9) aN))) (gN 11))
      (sSeq (sAs (eAn (e2 (gEq true) (eV 9) (eTup aN)) (eBl (bAllAny fun bs => bs.all id) (aC (eLc (iR1 (aC (eV 11) aN)) (gN 13) tYs (e2 (gEq false) (e2 gIx2 (eV 2) (e2 (gI (fun _ j => decide (0 < j)) fun i j => i % j) (eV 13) (eBl bLen3 (aC (eV 2) aN)))) (e2 gIx2 (eV 9) (e2 (gI (fun _ j => decide (0 < j)) fun i j => i % j) (eV 13) (eBl bLen3 (aC (eV 9) aN))))) [13]) aN))) (gN 12))
      (sSeq (sAs (e2 gAdd (eV 7) (eLst (aC (eCl 2 (T 4) (aC (eV 2) (aC (eV 9) aN))) (aC (eCl 2 (T 4) (aC (eV 9) (aC (eV 2) aN))) (aC (eCl 2 (T 4) (aC (eV 2) (aC (eV 9) aN))) aN))))) (gN 7))
      (sSeq (sAs (e2 gAdd (eV 8) (eLst (aC (eV 10) (aC (eV 10) (aC (eOrT (e2 (gEq false) (eV 9) (eTup aN)) (eV 12)) aN))))) (gN 8))
      (sSeq (sAs (eLc (iR1 (aC (eBl (bMM2 fun i j => if j < i then j else i) (aC (eBl bLen3 (aC (eV 2) aN)) (aC (eBl bLen3 (aC (eV 9) aN)) aN))) aN)) (gN 13) (asB (e2 (gEq true) (e2 gIx2 (eV 2) (eV 13)) (e2 gIx2 (eV 9) (eV 13)))) (eV 13) [13]) (gN 14))
      (sSeq (sAs (e2 gAdd (eV 7) (eLst (aC (eCl 2 (T 9) (aC (eV 2) (aC (eV 9) aN))) (aC (eCl 2 (T 9) (aC (eV 9) (aC (eV 2) aN))) aN)))) (gN 7))
      (sSeq (sAs (e2 gAdd (eV 8) (e2 gMul (eLst (aC (eIf (asB (e2 (gB0 fun i j => decide (j < i)) (eBl bLen3 (aC (eV 14) aN)) (eK (.int 0)))) (e2 gIx2 (eV 14) (eK (.int 0))) (eK .non)) aN)) (eK (.int 2)))) (gN 8))
      sNil)))))))))
      (sSeq (sAs (eLc (iV3 (eTup (aC (eV 2) (aC (eV 3) (aC (eV 4) aN))))) (gN 9) (asB (e2 (gEq true) (eV 9) (eTup aN))) (eV 9) [9]) (gN 15))
      (sSeq (sUn (sAs (eBl (bAllAny fun bs => bs.all id) (aC (eComp (.lst []) (iV3 (eV 15)) (gN 9) tYs (moreL (e2 (gEq false) (e2 gIx2 (eCl 1 (T 15) (aC (eV 9) aN)) (eK (.int 0))) (e2 gIx2 (eV 5) (eK (.int 0))))) [9]) aN)) (gN 16)))
      (sSeq (sAs (e2 gAdd (eV 7) (eLst (aC (eCl 1 (T 16) (aC (eTup (aC (eV 2) (aC (eV 3) (aC (eV 4) aN)))) aN)) (aC (eCl 1 (T 16) (aC (eTup (aC (eV 4) (aC (eV 3) (aC (eV 2) aN)))) aN)) aN)))) (gN 7))
      (sSeq (sAs (e2 gAdd (eV 8) (e2 gMul (eLst (aC (eIf (asT (eV 16)) (e2 gIx2 (eV 5) (eK (.int 0))) (eLst (aC (eK (.str "none")) aN))) aN)) (eK (.int 2)))) (gN 8))
      (sSeq (sAs (eCl 2 (T 11) (aC (eV 0) (aC (eK (.int 9)) aN))) (gN 17))
      (sSeq (sAs (eV 2) (gN 18))
      (sSeq (sFor (iR1 (aC (eV 17) aN)) (gN 13) (sSeq (sAs (e2 gAdd (eSl (eV 18) (oS (eK (.int 1))) oN) (eSl (eV 18) oN (oS (eK (.int 1))))) (gN 18))
      sNil))
      (sSeq (sAs (e2 gAdd (eV 7) (eLst (aC (eCl 2 (T 6) (aC (eV 2) (aC (eV 17) aN))) (aC (eCl 2 (T 6) (aC (eV 2) (aC (e2 gAdd (eV 17) (e2 gMul (eBl bLen3 (aC (eV 2) aN)) (e2 (gI cPow fun i j => i ^ j.toNat) (eK (.int 10)) (eK (.int 9))))) aN))) (aC (eCl 3 (T 7) (aC (eV 2) (aC (eV 17) (aC (eV 6) aN)))) (aC (eCl 3 (T 8) (aC (eV 2) (aC (eV 17) (aC (eV 3) aN)))) (aC (eCl 3 (T 7) (aC (eV 2) (aC (e2 gAdd (eV 17) (e2 gMul (eBl bLen3 (aC (eV 2) aN)) (e2 (gI cPow fun i j => i ^ j.toNat) (eK (.int 10)) (eK (.int 9))))) (aC (eV 6) aN)))) aN))))))) (gN 7))
      (sSeq (sAs (eBl bTup (aC (eLc (iR1 (aC (eV 6) aN)) (gN 13) tYs (e2 gIx2 (e2 gMul (eV 2) (eK (.int 20))) (e2 gAdd (eV 17) (eV 13))) [13]) aN)) (gN 19))
      (sSeq (sAs (e2 gAdd (eV 8) (eLst (aC (eV 18) (aC (eV 18) (aC (eV 19) (aC (eBl (bAllAny fun bs => bs.all id) (aC (eLc (iR1 (aC (eBl bLen3 (aC (eV 3) aN)) aN)) (gN 13) tYs (e2 (gEq false) (e2 gIx2 (e2 gMul (eV 2) (eK (.int 20))) (e2 gAdd (eV 17) (eV 13))) (e2 gIx2 (eV 3) (eV 13))) [13]) aN)) (aC (eV 19) aN))))))) (gN 8))
      (sSeq (sRt (eCl 2 (T 13) (aC (eV 7) (aC (eV 8) aN))))
      sNil))))))))))))))))))
abbrev s__law_by_hand_right : Stmt := top 24
theorem sc__law_by_hand_right : FnScope ["heard"] [] (defScope s__law_by_hand_right) := ⟨rfl, rfl, rfl, by decide +kernel, rfl, by decide +kernel, by decide +kernel⟩
def F__law_by_hand_right (T : Tab) : FS :=
    (sSeq (sAs (eLst (aC (eCl 1 (T 3) (aC (eTup (aC (eK (.int 0)) (aC (eK (.int 1)) (aC (eK (.int 0)) (aC (eK (.int 1)) aN))))) aN)) (aC (eCl 1 (T 5) (aC (eTup (aC (eTup (aC (eK (.int 0)) (aC (eK (.int 0)) aN))) (aC (eTup (aC (eK (.int 0)) aN)) aN))) aN)) (aC (eCl 2 (T 4) (aC (eTup (aC (eK (.int 0)) (aC (eK (.int 1)) aN))) (aC (eTup (aC (eK (.int 1)) (aC (eK (.int 0)) aN))) aN))) (aC (eCl 2 (T 6) (aC (eTup (aC (eK (.int 0)) (aC (eK (.int 1)) (aC (eK (.int 2)) aN)))) (aC (eK (.int 4)) aN))) aN))))) (gN 0))
      (sSeq (sAs (e2 gAdd (eV 0) (eLst (aC (eCl 3 (T 7) (aC (eTup (aC (eK (.int 0)) (aC (eK (.int 1)) (aC (eK (.int 2)) aN)))) (aC (eK (.int 10)) (aC (eK (.int 2)) aN)))) (aC (eCl 2 (T 9) (aC (eTup (aC (eK (.int 0)) (aC (eK (.int 1)) aN))) (aC (eTup (aC (eK (.int 0)) (aC (eK (.int 0)) aN))) aN))) (aC (eCl 1 (T 16) (aC (eTup (aC (eTup (aC (eK (.int 0)) (aC (eK (.int 1)) aN))) (aC (eTup (aC (eK (.int 1)) (aC (eK (.int 0)) aN))) aN))) aN)) aN))))) (gN 0))
      (sSeq (sRt (eCl 2 (T 13) (aC (eV 0) (aC (eLst (aC (eTup (aC (eTup (aC (eK (.int 0)) (aC (eK (.int 1)) aN))) (aC (eK (.int 2)) aN))) (aC (eTup (aC (eK (.int 0)) aN)) (aC (eK (.bl false)) (aC (eTup (aC (eK (.int 1)) (aC (eK (.int 2)) (aC (eK (.int 0)) aN)))) (aC (eTup (aC (eK (.int 1)) (aC (eK (.int 2)) aN))) (aC (eK (.int 1)) (aC (eLst (aC (eK (.str "none")) aN)) aN)))))))) aN))))
      sNil)))
abbrev s_law : Stmt := top 25
theorem sc_law : FnScope ["script", "cells_so", "k"] ["script"] (defScope s_law) := ⟨rfl, rfl, rfl, by decide +kernel, rfl, by decide +kernel, by decide +kernel⟩
def F_law (T : Tab) : FS :=
    (sSeq (sIf (tNt (asT (eCl0 (T 18)))) (sSeq (sRt (eK (.bl false)))
      sNil) sNil)
      (sSeq (sAs (eCl 2 (T 12) (aC (eV 0) (aC (eK (.int 2)) aN))) (gN 1))
      (sSeq (sRt (eBl (bAllAny fun bs => bs.all id) (aC (eComp (.lst []) (iR1 (aC (eBl bLen3 (aC (eV 1) aN)) aN)) (gN 2) tYs (moreL (eCl 1 (T 17) (aC (eCl 2 (T 10) (aC (eV 1) (aC (eV 2) aN))) aN))) [2]) aN)))
      sNil)))
def NM : List (Pos × Str) := []
def TX : List (Nat × CTx) := []
def bodies (T : Tab) : BT := (.nd (some (frm (runB 9 (F_frozen T)))) (.nd (some (frm (runB 4 (F__holds_list T)))) (.nd (some (frm (runB 3 (F_root_of T)))) (.nd (some (frm (runB 6 (F_piece_of T)))) (.nd (some (frm (runB 3 (F__law_root T)))) .lf .lf) .lf) (.nd (some (runB 6 (F__law_take T))) (.nd (some (runB 3 (F_law T))) .lf .lf) .lf)) (.nd (some (frm (runB 4 (F_common_root T)))) (.nd (some (frm (runB 5 (F_first_apart T)))) (.nd (some (runB 20 (F__law_right T))) .lf .lf) .lf) (.nd (some (frm (runB 4 (F__law_same T)))) .lf .lf))) (.nd (some (frm (runB 2 (F_word_power T)))) (.nd (some (frm (runB 4 (F_commute T)))) (.nd (some (frm (runB 4 (F_is_piece T)))) (.nd (some (runB 1 (F__law_common T))) .lf .lf) .lf) (.nd (some (runB 6 (F__law_cells T))) .lf .lf)) (.nd (some (frm (runB 4 (F_turned T)))) (.nd (some (runB 3 (F__law_box T))) (.nd (some (frm (runB 1 (F__law_by_hand_right T)))) .lf .lf) .lf) (.nd (some (runB 4 (F__law_word T))) .lf .lf))))
def callE : Nat → Tab
  | 0 => fun _ _ _ => .no
  | d + 1 => (bodies (callE d)).get
theorem callE_at (k d : Nat) : callE (d + 1) k = (bodies (callE d)).get k := rfl
structure Ds (P : Program) (w : World) (K : PySem.W.Frag) (mg : Str → Option Value) (base : Heap) (G : GC) (cl : Cls) (T : Tab) (d : Nat) : Prop where
  d0 : DfE P w K mg base G cl "frozen" ["value"] (2 * d + 2) (T 0)
  d1 : DfE P w K mg base G cl "_holds_list" ["value"] (2 * d + 2) (T 1)
  d2 : DfE P w K mg base G cl "word_power" ["word", "many"] (2 * d + 2) (T 2)
  d3 : DfE P w K mg base G cl "root_of" ["word"] (2 * d + 2) (T 3)
  d4 : DfE P w K mg base G cl "commute" ["word", "other"] (2 * d + 2) (T 4)
  d5 : DfE P w K mg base G cl "common_root" ["words"] (2 * d + 2) (T 5)
  d6 : DfE P w K mg base G cl "turned" ["word", "many"] (2 * d + 2) (T 6)
  d7 : DfE P w K mg base G cl "piece_of" ["row", "start", "many"] (2 * d + 2) (T 7)
  d8 : DfE P w K mg base G cl "is_piece" ["row", "start", "word"] (2 * d + 2) (T 8)
  d9 : DfE P w K mg base G cl "first_apart" ["word", "other"] (2 * d + 2) (T 9)
  d10 : DfE P w K mg base G cl "_law_box" ["script", "k"] (2 * d + 2) (T 10)
  d11 : DfE P w K mg base G cl "_law_take" ["urn", "low_so"] (2 * d + 2) (T 11)
  d12 : DfE P w K mg base G cl "_law_cells" ["script", "top"] (2 * d + 2) (T 12)
  d13 : DfE P w K mg base G cl "_law_same" ["got", "goal"] (2 * d + 2) (T 13)
  d14 : DfE P w K mg base G cl "_law_word" ["urn", "most", "kinds_so"] (2 * d + 2) (T 14)
  d15 : DfE P w K mg base G cl "_law_root" ["word"] (2 * d + 2) (T 15)
  d16 : DfE P w K mg base G cl "_law_common" ["words_so"] (2 * d + 2) (T 16)
  d17 : DfE P w K mg base G cl "_law_right" ["urn"] (2 * d + 2) (T 17)
  d18 : DfE P w K mg base G cl "_law_by_hand_right" [] (2 * d + 2) (T 18)
  d19 : DfE P w K mg base G cl "law" ["script"] (2 * d + 2) (T 19)
  e_CanNot : ExE K mg cl "CanNot" 0
  n_CanNot : ExN K mg cl "CanNot" 0
  e_Unfit : ExE K mg cl "Unfit" 1
end L02
namespace L02
open PySem PySem.Spec PyProof.Rows L2 EV
section
variable {P : Program} {w : World} {K : PySem.W.Frag} {mg : Str → Option Value} {base : Heap} {G : GC} {cl : Cls} {T : Tab} {d : Nat} {f : Addr} {fd : FuncData}
theorem ok_frozen (F : Fun K "frozen" "frozen" s_frozen f fd) (hK : K = G.K) (hP : P = G.prog) (hW : w = G.wo) (hX : GX G NM TX) (D : Ds P w K mg base G cl T d) (m_isinstance : mg "isinstance" = none) (m_len : mg "len" = none) (m_list : mg "list" = none) (m_reversed : mg "reversed" = none) (m_tuple : mg "tuple" = none) : FnE P w K mg base (2 * d + 3 + 1) f fd ["value"] G cl (frm (runB 9 (F_frozen T))) :=
  FnE.frm (ok_E F sc_frozen fun cdv A outer s H E hr => by
    have hu := hr.units
    exact (ss_cons (ss_if (st_not (st_tru hK (se_call D.d1 (takes_of rfl rfl rfl rfl) (hr.mono (Nat.le_succ _)) rfl (sa_cons (se_w 0) sa_nil rfl) (by decide) rfl rfl rfl) (by intro _; rfl))) (ss_cons (ss_ret (se_w 0))
      ss_nil) ss_nil)
      (ss_cons (ss_par (i := 1) (j := 2) rfl sc_frozen.nd rfl rfl (by decide) rfl rfl (sa_cons (se_lst sa_nil) (sa_cons (se_lst (sa_cons (se_w 0) sa_nil rfl)) sa_nil rfl) rfl) (by rfl) (by rfl))
      (ss_cons (ss_while (passes_of rfl) (st_tru hK (se_w 2) (by intro _; rfl)) (ss_cons (ss_set (i := 3) sc_frozen.nd rfl (by first | exact Or.inl rfl | exact Or.inr rfl) (se_mt0 hK PySem.F.plainAttrs_list PySem.F.slot_list_pop PySem.F.type_list_pop mt_pop ms_pop (se_w 2) rfl rfl) rfl (by first | exact Or.inl rfl | exact Or.inr rfl))
      (ss_cons (ss_un (ss_lc (i := 4) (own := [("part", 5)]) rfl sc_frozen.nd rfl rfl (sw_true rfl rfl rfl (by decide +kernel)) (si_v3 hK (se_w 3)) (blkOk_by (own := [("part", 5)]) (show blkC ["value", "wholes", "waiting", "whole", "within", "part", "done", "many", "items"] (defScope s_frozen) _ _ = true by decide +kernel)) (fun _ _ _ _ _ => (sg_n (pg_name (i := 5) sc_frozen.nd rfl (by first | exact Or.inl rfl | exact Or.inr rfl)))) (fun _ _ _ _ _ => sts_one (st_tru hK (se_isi2 (t := Kd.list) (t' := Kd.tuple) hK m_isinstance rfl (se_w 5) (pe_bltn rfl m_list (by decide +kernel) rfl) (pe_bltn rfl m_tuple (by decide +kernel) rfl) rfl rfl rfl rfl rfl) (by intro _; rfl))) (fun _ _ _ _ _ => (se_w 5)) (by decide) (by intro _; rfl)))
      (ss_cons (ss_expr (se_mt hK PySem.F.plainAttrs_list PySem.F.slot_list_append PySem.F.type_list_append mt_append ms_app (se_w 1) (sa_cons (se_tup (sa_cons (se_w 3) (sa_cons (se_len3 hK ⟨hP, hW⟩ m_len rfl (sa_cons (se_w 4) sa_nil rfl) rfl rfl) sa_nil rfl) rfl)) sa_nil rfl) rfl rfl rfl rfl rfl) rfl)
      (ss_cons (ss_expr (se_ext hK (se_w 2) (sa_cons (se_rev2 hK (se_w 4)) sa_nil rfl) rfl rfl rfl rfl rfl) rfl)
      ss_nil)))))
      (ss_cons (ss_set (i := 6) sc_frozen.nd rfl (by first | exact Or.inl rfl | exact Or.inr rfl) (se_lst sa_nil) rfl (by first | exact Or.inl rfl | exact Or.inr rfl))
      (ss_cons (ss_for (passes_of rfl) rfl (si_rev hK rfl m_reversed (se_w 1) rfl) (sg_tl hK (n := 2) rfl (sgs_cons (sg_n (pg_name (i := 3) sc_frozen.nd rfl (by first | exact Or.inl rfl | exact Or.inr rfl))) (sgs_cons (sg_n (pg_name (i := 7) sc_frozen.nd rfl (by first | exact Or.inl rfl | exact Or.inr rfl))) sgs_nil rfl) rfl) rfl rfl) (ss_cons (ss_if (st_eq hK hu (se_w 7) se_int) (ss_cons (ss_expr (se_mt hK PySem.F.plainAttrs_list PySem.F.slot_list_append PySem.F.type_list_append mt_append ms_app (se_w 6) (sa_cons (se_tupOf hK m_tuple rfl (sa_cons (se_w 3) sa_nil rfl) rfl rfl) sa_nil rfl) rfl rfl rfl rfl rfl) rfl)
      ss_nil) (ss_cons (ss_un (ss_lc (i := 8) (own := [("part", 5)]) rfl sc_frozen.nd rfl rfl (sw_true rfl rfl rfl (by decide +kernel)) (si_v3 hK (se_w 3)) (blkOk_by (own := [("part", 5)]) (show blkC ["value", "wholes", "waiting", "whole", "within", "part", "done", "many", "items"] (defScope s_frozen) _ _ = true by decide +kernel)) (fun _ _ _ _ _ => (sg_n (pg_name (i := 5) sc_frozen.nd rfl (by first | exact Or.inl rfl | exact Or.inr rfl)))) (fun _ _ _ _ _ => sts_nil) (fun _ _ _ _ _ => (se_if (st_tru hK (se_isi2 (t := Kd.list) (t' := Kd.tuple) hK m_isinstance rfl (se_w 5) (pe_bltn rfl m_list (by decide +kernel) rfl) (pe_bltn rfl m_tuple (by decide +kernel) rfl) rfl rfl rfl rfl rfl) (by intro _; rfl)) (se_mt0 hK PySem.F.plainAttrs_list PySem.F.slot_list_pop PySem.F.type_list_pop mt_pop ms_pop (se_w 6) rfl rfl) (se_w 5))) (by decide) (by intro _; rfl)))
      (ss_cons (ss_expr (se_mt hK PySem.F.plainAttrs_list PySem.F.slot_list_append PySem.F.type_list_append mt_append ms_app (se_w 6) (sa_cons (se_tupOf hK m_tuple rfl (sa_cons (se_w 8) sa_nil rfl) rfl rfl) sa_nil rfl) rfl rfl rfl rfl rfl) rfl)
      ss_nil)))
      ss_nil) (by intro _; rfl))
      (ss_cons (ss_ret (se_ix2 hK ⟨hP, hW⟩ (room65 hr) (se_w 6) se_int (by exact fun _ _ => rfl)))
      ss_nil)))))))
theorem ok__holds_list (F : Fun K "_holds_list" "_holds_list" s__holds_list f fd) (hK : K = G.K) (hP : P = G.prog) (hW : w = G.wo) (hX : GX G NM TX) (D : Ds P w K mg base G cl T d) (m_isinstance : mg "isinstance" = none) (m_list : mg "list" = none) (m_tuple : mg "tuple" = none) : FnE P w K mg base (2 * d + 3 + 1) f fd ["value"] G cl (frm (runB 4 (F__holds_list T))) :=
  FnE.frm (ok_E F sc__holds_list fun cdv A outer s H E hr => by
    have hu := hr.units
    exact (ss_cons (ss_if (st_not (st_tru hK (se_isi (t := Kd.tuple) hK m_isinstance rfl (se_w 0) (pe_bltn rfl m_tuple (by decide +kernel) rfl) rfl rfl rfl) (by intro _; rfl))) (ss_cons (ss_ret (se_isi (t := Kd.list) hK m_isinstance rfl (se_w 0) (pe_bltn rfl m_list (by decide +kernel) rfl) rfl rfl rfl))
      ss_nil) ss_nil)
      (ss_cons (ss_set (i := 1) sc__holds_list.nd rfl (by first | exact Or.inl rfl | exact Or.inr rfl) (se_lst (sa_cons (se_w 0) sa_nil rfl)) rfl (by first | exact Or.inl rfl | exact Or.inr rfl))
      (ss_cons (ss_while (passes_of rfl) (st_tru hK (se_w 1) (by intro _; rfl)) (ss_cons (ss_set (i := 2) sc__holds_list.nd rfl (by first | exact Or.inl rfl | exact Or.inr rfl) (se_mt0 hK PySem.F.plainAttrs_list PySem.F.slot_list_pop PySem.F.type_list_pop mt_pop ms_pop (se_w 1) rfl rfl) rfl (by first | exact Or.inl rfl | exact Or.inr rfl))
      (ss_cons (ss_un (ss_for (passes_of rfl) rfl (si_v3 hK (se_w 2)) (sg_n (pg_name (i := 3) sc__holds_list.nd rfl (by first | exact Or.inl rfl | exact Or.inr rfl))) (ss_cons (ss_if (st_tru hK (se_isi (t := Kd.tuple) hK m_isinstance rfl (se_w 3) (pe_bltn rfl m_tuple (by decide +kernel) rfl) rfl rfl rfl) (by intro _; rfl)) (ss_cons (ss_expr (se_mt hK PySem.F.plainAttrs_list PySem.F.slot_list_append PySem.F.type_list_append mt_append ms_app (se_w 1) (sa_cons (se_w 3) sa_nil rfl) rfl rfl rfl rfl rfl) rfl)
      ss_nil) (ss_cons (ss_if (st_tru hK (se_isi (t := Kd.list) hK m_isinstance rfl (se_w 3) (pe_bltn rfl m_list (by decide +kernel) rfl) rfl rfl rfl) (by intro _; rfl)) (ss_cons (ss_ret se_bl)
      ss_nil) ss_nil)
      ss_nil))
      ss_nil) (by intro _; rfl)))
      ss_nil)))
      (ss_cons (ss_ret se_bl)
      ss_nil)))))
theorem ok_word_power (F : Fun K "word_power" "word_power" s_word_power f fd) (hK : K = G.K) (hP : P = G.prog) (hW : w = G.wo) (hX : GX G NM TX) (D : Ds P w K mg base G cl T d) : FnE P w K mg base (2 * d + 3 + 1) f fd ["word", "many"] G cl (frm (runB 2 (F_word_power T))) :=
  FnE.frm (ok_E F sc_word_power fun cdv A outer s H E hr => by
    have hu := hr.units
    exact (ss_cons (ss_ret (se_mul hK (se_call D.d0 (takes_of rfl rfl rfl rfl) (hr.mono (Nat.le_succ _)) rfl (sa_cons (se_w 0) sa_nil rfl) (by decide) rfl rfl rfl) (se_w 1)))
      ss_nil))
theorem ok_root_of (F : Fun K "root_of" "root_of" s_root_of f fd) (hK : K = G.K) (hP : P = G.prog) (hW : w = G.wo) (hX : GX G NM TX) (D : Ds P w K mg base G cl T d) (m_len : mg "len" = none) : FnE P w K mg base (2 * d + 3 + 1) f fd ["word"] G cl (frm (runB 3 (F_root_of T))) :=
  FnE.frm (ok_E F sc_root_of fun cdv A outer s H E hr => by
    have hu := hr.units
    exact (ss_cons (ss_set (i := 1) sc_root_of.nd rfl (by first | exact Or.inl rfl | exact Or.inr rfl) (se_call D.d0 (takes_of rfl rfl rfl rfl) (hr.mono (Nat.le_succ _)) rfl (sa_cons (se_w 0) sa_nil rfl) (by decide) rfl rfl rfl) rfl (by first | exact Or.inl rfl | exact Or.inr rfl))
      (ss_cons (ss_if (st_not (st_tru hK (se_w 1) (by intro _; rfl))) (ss_cons (ss_raise rfl (takes_of rfl rfl rfl rfl) D.e_Unfit rfl (by decide))
      ss_nil) ss_nil)
      (ss_cons (ss_set (i := 2) sc_root_of.nd rfl (by first | exact Or.inl rfl | exact Or.inr rfl) se_int rfl (by first | exact Or.inl rfl | exact Or.inr rfl))
      (ss_cons (ss_while (passes_of rfl) (SW.st (sw_or (st_ne hK hu (se_mod (se_len3 hK ⟨hP, hW⟩ m_len rfl (sa_cons (se_w 1) sa_nil rfl) rfl rfl) (se_w 2)) se_int) (sw_or1 (st_ne hK hu (se_mul hK (se_sl hK (se_w 1) so_none (so_some (se_w 2))) (se_div (se_len3 hK ⟨hP, hW⟩ m_len rfl (sa_cons (se_w 1) sa_nil rfl) rfl rfl) (se_w 2))) (se_w 1))))) (ss_cons (ss_aug (i := 2) sc_root_of.nd rfl (by first | exact Or.inl rfl | exact Or.inr rfl) se_int iop_add os_I0 (by first | exact Or.inl rfl | exact Or.inr rfl))
      ss_nil))
      (ss_cons (ss_ret (se_tup (sa_cons (se_sl hK (se_w 1) so_none (so_some (se_w 2))) (sa_cons (se_div (se_len3 hK ⟨hP, hW⟩ m_len rfl (sa_cons (se_w 1) sa_nil rfl) rfl rfl) (se_w 2)) sa_nil rfl) rfl)))
      ss_nil))))))
theorem ok_commute (F : Fun K "commute" "commute" s_commute f fd) (hK : K = G.K) (hP : P = G.prog) (hW : w = G.wo) (hX : GX G NM TX) (D : Ds P w K mg base G cl T d) : FnE P w K mg base (2 * d + 3 + 1) f fd ["word", "other"] G cl (frm (runB 4 (F_commute T))) :=
  FnE.frm (ok_E F sc_commute fun cdv A outer s H E hr => by
    have hu := hr.units
    exact (ss_cons (ss_par (i := 2) (j := 3) rfl sc_commute.nd rfl rfl (by decide) rfl rfl (sa_cons (se_call D.d0 (takes_of rfl rfl rfl rfl) (hr.mono (Nat.le_succ _)) rfl (sa_cons (se_w 0) sa_nil rfl) (by decide) rfl rfl rfl) (sa_cons (se_call D.d0 (takes_of rfl rfl rfl rfl) (hr.mono (Nat.le_succ _)) rfl (sa_cons (se_w 1) sa_nil rfl) (by decide) rfl rfl rfl) sa_nil rfl) rfl) (by rfl) (by rfl))
      (ss_cons (ss_ret (se_eq hK hu (se_add hK (se_w 2) (se_w 3)) (se_add hK (se_w 3) (se_w 2))))
      ss_nil)))
theorem ok_common_root {c Pt : Addr} (F : FunC K "common_root" "common_root" s_common_root f fd c) (TB : GxR.TabB base mg c Pt) (hT : Pt ∈ G.tabs) (hl : Pt ∉ G.ltabs) (hK : K = G.K) (hP : P = G.prog) (hW : w = G.wo) (hX : GX G NM TX) (D : Ds P w K mg base G cl T d) (m_all : mg "all" = none) : FnE P w K mg base (2 * d + 3 + 1) f fd ["words"] G cl (frm (runB 4 (F_common_root T))) :=
  FnE.frm (ok_EC F sc_common_root fun A outer s H E hr => by
    have hu := hr.units
    exact (ss_cons (ss_un (ss_lc (i := 1) (own := [("word", 2)]) rfl sc_common_root.nd rfl rfl (sw_true rfl rfl rfl (by decide +kernel)) (si_v3 hK (se_call D.d0 (takes_of rfl rfl rfl rfl) (hr.mono (Nat.le_succ _)) rfl (sa_cons (se_w 0) sa_nil rfl) (by decide) rfl rfl rfl)) (blkOk_by (own := [("word", 2)]) (show blkC ["words", "filled_ones", "word", "root"] (defScope s_common_root) _ _ = true by decide +kernel)) (fun _ _ _ _ _ => (sg_n (pg_name (i := 2) sc_common_root.nd rfl (by first | exact Or.inl rfl | exact Or.inr rfl)))) (fun _ _ _ _ _ => sts_one (st_tru hK (se_w 2) (by intro _; rfl))) (fun _ _ _ _ _ => (se_w 2)) (by decide) (by intro _; rfl)))
      (ss_cons (ss_if (st_not (st_tru hK (se_w 1) (by intro _; rfl))) (ss_cons (ss_ret (se_tup sa_nil))
      ss_nil) ss_nil)
      (ss_cons (ss_set (i := 3) sc_common_root.nd rfl (by first | exact Or.inl rfl | exact Or.inr rfl) (se_ix2 hK ⟨hP, hW⟩ (room65 hr) (se_call D.d3 (takes_of rfl rfl rfl rfl) (hr.mono (Nat.le_succ _)) rfl (sa_cons (se_ix2 hK ⟨hP, hW⟩ (room65 hr) (se_w 1) se_int (by exact fun _ _ => rfl)) sa_nil rfl) (by decide) rfl rfl rfl) se_int (by exact fun _ _ => rfl)) rfl (by first | exact Or.inl rfl | exact Or.inr rfl))
      (ss_cons (ss_un (ss_if (st_not (st_tru hK (se_allG (own := [("word", 2)]) hr rfl m_all (by decide +kernel) ⟨TB, hT, hl⟩ rfl sc_common_root.nd (si_v3 hK (se_w 1)) (blkOk_by (own := [("word", 2)]) (show blkC ["words", "filled_ones", "word", "root"] (defScope s_common_root) _ _ = true by decide +kernel)) rfl (by decide +kernel) rfl (fun _ _ _ _ _ _ _ => (sg_n (pg_name (i := 2) sc_common_root.nd rfl (by first | exact Or.inl rfl | exact Or.inr rfl)))) (fun _ _ _ _ _ _ _ => sts_nil) (fun _ _ _ _ _ _ _ => (se_call D.d4 takes0 (room_gen hr _) rfl (sa_cons (se_w 3) (sa_cons (se_w 2) sa_nil rfl) rfl) (by decide) rfl rfl rfl)) (by decide) (by intro _; rfl) rfl) (by intro _; rfl))) (ss_cons (ss_raise rfl (takes_of rfl rfl rfl rfl) D.e_CanNot rfl (by decide))
      ss_nil) ss_nil))
      (ss_cons (ss_ret (se_w 3))
      ss_nil))))))
theorem ok_turned (F : Fun K "turned" "turned" s_turned f fd) (hK : K = G.K) (hP : P = G.prog) (hW : w = G.wo) (hX : GX G NM TX) (D : Ds P w K mg base G cl T d) (m_len : mg "len" = none) : FnE P w K mg base (2 * d + 3 + 1) f fd ["word", "many"] G cl (frm (runB 4 (F_turned T))) :=
  FnE.frm (ok_E F sc_turned fun cdv A outer s H E hr => by
    have hu := hr.units
    exact (ss_cons (ss_set (i := 2) sc_turned.nd rfl (by first | exact Or.inl rfl | exact Or.inr rfl) (se_call D.d0 (takes_of rfl rfl rfl rfl) (hr.mono (Nat.le_succ _)) rfl (sa_cons (se_w 0) sa_nil rfl) (by decide) rfl rfl rfl) rfl (by first | exact Or.inl rfl | exact Or.inr rfl))
      (ss_cons (ss_if (st_not (st_tru hK (se_w 2) (by intro _; rfl))) (ss_cons (ss_ret (se_tup sa_nil))
      ss_nil) ss_nil)
      (ss_cons (ss_set (i := 3) sc_turned.nd rfl (by first | exact Or.inl rfl | exact Or.inr rfl) (se_mod (se_w 1) (se_len3 hK ⟨hP, hW⟩ m_len rfl (sa_cons (se_w 2) sa_nil rfl) rfl rfl)) rfl (by first | exact Or.inl rfl | exact Or.inr rfl))
      (ss_cons (ss_ret (se_add hK (se_sl hK (se_w 2) (so_some (se_w 3)) so_none) (se_sl hK (se_w 2) so_none (so_some (se_w 3)))))
      ss_nil)))))
theorem ok_piece_of (F : Fun K "piece_of" "piece_of" s_piece_of f fd) (hK : K = G.K) (hP : P = G.prog) (hW : w = G.wo) (hX : GX G NM TX) (D : Ds P w K mg base G cl T d) (m_len : mg "len" = none) : FnE P w K mg base (2 * d + 3 + 1) f fd ["row", "start", "many"] G cl (frm (runB 6 (F_piece_of T))) :=
  FnE.frm (ok_E F sc_piece_of fun cdv A outer s H E hr => by
    have hu := hr.units
    exact (ss_cons (ss_set (i := 3) sc_piece_of.nd rfl (by first | exact Or.inl rfl | exact Or.inr rfl) (se_call D.d0 (takes_of rfl rfl rfl rfl) (hr.mono (Nat.le_succ _)) rfl (sa_cons (se_w 0) sa_nil rfl) (by decide) rfl rfl rfl) rfl (by first | exact Or.inl rfl | exact Or.inr rfl))
      (ss_cons (ss_if (st_not (st_tru hK (se_w 3) (by intro _; rfl))) (ss_cons (ss_raise rfl (takes_of rfl rfl rfl rfl) D.e_Unfit rfl (by decide))
      ss_nil) ss_nil)
      (ss_cons (ss_set (i := 4) sc_piece_of.nd rfl (by first | exact Or.inl rfl | exact Or.inr rfl) (se_mod (se_w 1) (se_len3 hK ⟨hP, hW⟩ m_len rfl (sa_cons (se_w 3) sa_nil rfl) rfl rfl)) rfl (by first | exact Or.inl rfl | exact Or.inr rfl))
      (ss_cons (ss_set (i := 5) sc_piece_of.nd rfl (by first | exact Or.inl rfl | exact Or.inr rfl) (se_add hK (se_div (se_add hK (se_w 4) (se_w 2)) (se_len3 hK ⟨hP, hW⟩ m_len rfl (sa_cons (se_w 3) sa_nil rfl) rfl rfl)) se_int) rfl (by first | exact Or.inl rfl | exact Or.inr rfl))
      (ss_cons (ss_ret (se_sl hK (se_mul hK (se_w 3) (se_w 5)) (so_some (se_w 4)) (so_some (se_add hK (se_w 4) (se_w 2)))))
      ss_nil))))))
theorem ok_is_piece (F : Fun K "is_piece" "is_piece" s_is_piece f fd) (hK : K = G.K) (hP : P = G.prog) (hW : w = G.wo) (hX : GX G NM TX) (D : Ds P w K mg base G cl T d) (m_len : mg "len" = none) : FnE P w K mg base (2 * d + 3 + 1) f fd ["row", "start", "word"] G cl (frm (runB 4 (F_is_piece T))) :=
  FnE.frm (ok_E F sc_is_piece fun cdv A outer s H E hr => by
    have hu := hr.units
    exact (ss_cons (ss_set (i := 3) sc_is_piece.nd rfl (by first | exact Or.inl rfl | exact Or.inr rfl) (se_call D.d0 (takes_of rfl rfl rfl rfl) (hr.mono (Nat.le_succ _)) rfl (sa_cons (se_w 2) sa_nil rfl) (by decide) rfl rfl rfl) rfl (by first | exact Or.inl rfl | exact Or.inr rfl))
      (ss_cons (ss_ret (se_eq hK hu (se_call D.d7 (takes_of rfl rfl rfl rfl) (hr.mono (Nat.le_succ _)) rfl (sa_cons (se_w 0) (sa_cons (se_w 1) (sa_cons (se_len3 hK ⟨hP, hW⟩ m_len rfl (sa_cons (se_w 3) sa_nil rfl) rfl rfl) sa_nil rfl) rfl) rfl) (by decide) rfl rfl rfl) (se_w 3)))
      ss_nil)))
theorem ok_first_apart (F : Fun K "first_apart" "first_apart" s_first_apart f fd) (hK : K = G.K) (hP : P = G.prog) (hW : w = G.wo) (hX : GX G NM TX) (D : Ds P w K mg base G cl T d) (m_enumerate : mg "enumerate" = none) (m_zip : mg "zip" = none) : FnE P w K mg base (2 * d + 3 + 1) f fd ["word", "other"] G cl (frm (runB 5 (F_first_apart T))) :=
  FnE.frm (ok_E F sc_first_apart fun cdv A outer s H E hr => by
    have hu := hr.units
    exact (ss_cons (ss_for (passes_of rfl) rfl (si_or (tupR (aC (eCl 1 (T 0) (aC (eV 0) aN)) (aC (eCl 1 (T 0) (aC (eV 1) aN)) aN))) (si_EZ rfl hK rfl m_enumerate rfl m_zip (sa_cons (se_call D.d0 (takes_of rfl rfl rfl rfl) (hr.mono (Nat.le_succ _)) rfl (sa_cons (se_w 0) sa_nil rfl) (by decide) rfl rfl rfl) (sa_cons (se_call D.d0 (takes_of rfl rfl rfl rfl) (hr.mono (Nat.le_succ _)) rfl (sa_cons (se_w 1) sa_nil rfl) (by decide) rfl rfl rfl) sa_nil rfl) rfl) rfl rfl rfl) (si_EZL rfl hK rfl m_enumerate rfl m_zip (sa_cons (se_call D.d0 (takes_of rfl rfl rfl rfl) (hr.mono (Nat.le_succ _)) rfl (sa_cons (se_w 0) sa_nil rfl) (by decide) rfl rfl rfl) (sa_cons (se_call D.d0 (takes_of rfl rfl rfl rfl) (hr.mono (Nat.le_succ _)) rfl (sa_cons (se_w 1) sa_nil rfl) (by decide) rfl rfl rfl) sa_nil rfl) rfl) rfl rfl rfl)) (sg_tl hK (n := 2) rfl (sgs_cons (sg_n (pg_name (i := 2) sc_first_apart.nd rfl (by first | exact Or.inl rfl | exact Or.inr rfl))) (sgs_cons (sg_tl hK (n := 2) rfl (sgs_cons (sg_n (pg_name (i := 3) sc_first_apart.nd rfl (by first | exact Or.inl rfl | exact Or.inr rfl))) (sgs_cons (sg_n (pg_name (i := 4) sc_first_apart.nd rfl (by first | exact Or.inl rfl | exact Or.inr rfl))) sgs_nil rfl) rfl) rfl rfl) sgs_nil rfl) rfl) rfl rfl) (ss_cons (ss_if (st_ne hK hu (se_w 3) (se_w 4)) (ss_cons (ss_ret (se_w 2))
      ss_nil) ss_nil)
      ss_nil) (by intro _; rfl))
      (ss_cons (ss_ret se_non)
      ss_nil)))
theorem ok__law_box (F : Fun K "_law_box" "_law_box" s__law_box f fd) (hK : K = G.K) (hP : P = G.prog) (hW : w = G.wo) (hX : GX G NM TX) (D : Ds P w K mg base G cl T d) (m_abs : mg "abs" = none) (m_int : mg "int" = none) (m_len : mg "len" = none) : FnE P w K mg base (2 * d + 3 + 1) f fd ["script", "k"] G cl (runB 3 (F__law_box T)) :=
  ok_E F sc__law_box fun cdv A outer s H E hr => by
    have hu := hr.units
    exact (ss_cons (ss_set (i := 2) sc__law_box.nd rfl (by first | exact Or.inl rfl | exact Or.inr rfl) (se_if (st_lt (se_w 1) (se_len3 hK ⟨hP, hW⟩ m_len rfl (sa_cons (se_w 0) sa_nil rfl) rfl rfl)) (se_ix2 hK ⟨hP, hW⟩ (room65 hr) (se_w 0) (se_w 1) (by exact fun _ _ => rfl)) se_int) rfl (by first | exact Or.inl rfl | exact Or.inr rfl))
      (ss_cons (ss_ret (se_lst (sa_cons (se_mul hK (se_abs m_abs rfl (sa_cons (se_w 2) sa_nil rfl) rfl rfl) (se_intOf m_int rfl (sa_cons (se_ge (se_abs m_abs rfl (sa_cons (se_w 2) sa_nil rfl) rfl rfl) (se_pow se_int se_int)) sa_nil rfl) rfl rfl)) (sa_cons (se_add hK (se_add hK (se_mod (se_intOf m_int rfl (sa_cons (se_w 2) sa_nil rfl) rfl rfl) se_int) (se_mul hK se_int (se_w 1))) se_int) (sa_cons se_int sa_nil rfl) rfl) rfl)))
      ss_nil))
theorem ok__law_take (F : Fun K "_law_take" "_law_take" s__law_take f fd) (hK : K = G.K) (hP : P = G.prog) (hW : w = G.wo) (hX : GX G NM TX) (D : Ds P w K mg base G cl T d) (m_int : mg "int" = none) : FnE P w K mg base (2 * d + 3 + 1) f fd ["urn", "low_so"] G cl (runB 6 (F__law_take T)) :=
  ok_E F sc__law_take fun cdv A outer s H E hr => by
    have hu := hr.units
    exact (ss_cons (ss_if (st_gt (se_ix2 hK ⟨hP, hW⟩ (room65 hr) (se_w 0) se_int (by exact fun _ _ => rfl)) se_int) (ss_cons (ss_set (i := 2) sc__law_take.nd rfl (by first | exact Or.inl rfl | exact Or.inr rfl) (se_mod (se_intOf m_int rfl (sa_cons (se_ix2 hK ⟨hP, hW⟩ (room65 hr) (se_w 0) se_int (by exact fun _ _ => rfl)) sa_nil rfl) rfl rfl) (se_w 1)) rfl (by first | exact Or.inl rfl | exact Or.inr rfl))
      (ss_cons (ss_asg (se_div (se_ix2 hK ⟨hP, hW⟩ (room65 hr) (se_w 0) se_int (by exact fun _ _ => rfl)) (se_w 1)) (sg_sub2 hK ⟨hP, hW⟩ (room65 hr) (se_w 0) se_int (by intro _; rfl)) (by rfl) (by rfl) (by rfl))
      (ss_cons (ss_ret (se_w 2))
      ss_nil))) ss_nil)
      (ss_cons (ss_asg (se_add hK (se_ix2 hK ⟨hP, hW⟩ (room65 hr) (se_w 0) se_int (by exact fun _ _ => rfl)) se_int) (sg_sub2 hK ⟨hP, hW⟩ (room65 hr) (se_w 0) se_int (by intro _; rfl)) (by rfl) (by rfl) (by rfl))
      (ss_cons (ss_set (i := 3) sc__law_take.nd rfl (by first | exact Or.inl rfl | exact Or.inr rfl) (se_mod (se_intOf m_int rfl (sa_cons (se_mul hK (se_add hK (se_ix2 hK ⟨hP, hW⟩ (room65 hr) (se_w 0) se_int (by exact fun _ _ => rfl)) (se_mul hK se_int (se_ix2 hK ⟨hP, hW⟩ (room65 hr) (se_w 0) se_int (by exact fun _ _ => rfl)))) (se_add hK se_int (se_ix2 hK ⟨hP, hW⟩ (room65 hr) (se_w 0) se_int (by exact fun _ _ => rfl)))) sa_nil rfl) rfl rfl) se_int) rfl (by first | exact Or.inl rfl | exact Or.inr rfl))
      (ss_cons (ss_set (i := 4) sc__law_take.nd rfl (by first | exact Or.inl rfl | exact Or.inr rfl) (se_add hK (se_mod (se_intOf m_int rfl (sa_cons (se_w 3) sa_nil rfl) rfl rfl) se_int) se_int) rfl (by first | exact Or.inl rfl | exact Or.inr rfl))
      (ss_cons (ss_set (i := 5) sc__law_take.nd rfl (by first | exact Or.inl rfl | exact Or.inr rfl) (se_mod (se_intOf m_int rfl (sa_cons (se_mul hK (se_add hK (se_add hK (se_w 3) (se_ix2 hK ⟨hP, hW⟩ (room65 hr) (se_w 0) se_int (by exact fun _ _ => rfl))) (se_div (se_ix2 hK ⟨hP, hW⟩ (room65 hr) (se_w 0) se_int (by exact fun _ _ => rfl)) se_int)) (se_w 4)) sa_nil rfl) rfl rfl) se_int) rfl (by first | exact Or.inl rfl | exact Or.inr rfl))
      (ss_cons (ss_ret (se_mod (se_intOf m_int rfl (sa_cons (se_div (se_mod (se_intOf m_int rfl (sa_cons (se_add hK (se_mul hK (se_w 5) se_int) (se_w 3)) sa_nil rfl) rfl rfl) se_int) se_int) sa_nil rfl) rfl rfl) (se_w 1)))
      ss_nil))))))
end
end L02
namespace L02
open PySem PySem.Spec PyProof.Rows L2 EV
section
variable {P : Program} {w : World} {K : PySem.W.Frag} {mg : Str → Option Value} {base : Heap} {G : GC} {cl : Cls} {T : Tab} {d : Nat} {f : Addr} {fd : FuncData}
theorem ok__law_cells (F : Fun K "_law_cells" "_law_cells" s__law_cells f fd) (hK : K = G.K) (hP : P = G.prog) (hW : w = G.wo) (hX : GX G NM TX) (D : Ds P w K mg base G cl T d) (m_enumerate : mg "enumerate" = none) (m_int : mg "int" = none) (m_list : mg "list" = none) : FnE P w K mg base (2 * d + 3 + 1) f fd ["script", "top"] G cl (runB 6 (F__law_cells T)) :=
  ok_E F sc__law_cells fun cdv A outer s H E hr => by
    have hu := hr.units
    exact (ss_cons (ss_set (i := 2) sc__law_cells.nd rfl (by first | exact Or.inl rfl | exact Or.inr rfl) (se_orT hK (se_lst3 hK rfl m_list rfl (sa_cons (se_sl hK (se_w 0) so_none (so_some (se_w 1))) sa_nil rfl) rfl rfl) (se_one (se_lst (sa_cons se_int sa_nil rfl)))) rfl (by first | exact Or.inl rfl | exact Or.inr rfl))
      (ss_cons (ss_for (passes_of rfl) rfl (si_or (tupR (aC (eSl (eV 0) (oS (eV 1)) (oS (eK (.int 63)))) aN)) (si_enT hK rfl m_enumerate (sa_cons (se_sl hK (se_w 0) (so_some (se_w 1)) (so_some se_int)) sa_nil rfl) rfl) (si_enL hK rfl m_enumerate (sa_cons (se_sl hK (se_w 0) (so_some (se_w 1)) (so_some se_int)) sa_nil rfl) rfl)) (sg_tl hK (n := 2) rfl (sgs_cons (sg_n (pg_name (i := 3) sc__law_cells.nd rfl (by first | exact Or.inl rfl | exact Or.inr rfl))) (sgs_cons (sg_n (pg_name (i := 4) sc__law_cells.nd rfl (by first | exact Or.inl rfl | exact Or.inr rfl))) sgs_nil rfl) rfl) rfl rfl) (ss_cons (ss_set (i := 5) sc__law_cells.nd rfl (by first | exact Or.inl rfl | exact Or.inr rfl) (se_mod (se_intOf m_int rfl (sa_cons (se_w 3) sa_nil rfl) rfl rfl) (se_w 1)) rfl (by first | exact Or.inl rfl | exact Or.inr rfl))
      (ss_cons (ss_asg (se_add hK (se_ix2 hK ⟨hP, hW⟩ (room65 hr) (se_w 2) (se_w 5) (by exact fun _ _ => rfl)) (se_mul hK (se_w 4) (se_add hK (se_w 3) se_int))) (sg_sub2 hK ⟨hP, hW⟩ (room65 hr) (se_w 2) (se_w 5) (by intro _; rfl)) (by rfl) (by rfl) (by rfl))
      ss_nil)) (by intro _; rfl))
      (ss_cons (ss_ret (se_w 2))
      ss_nil)))
theorem ok__law_same (F : Fun K "_law_same" "_law_same" s__law_same f fd) (hK : K = G.K) (hP : P = G.prog) (hW : w = G.wo) (hX : GX G NM TX) (D : Ds P w K mg base G cl T d) (m_all : mg "all" = none) (m_bool : mg "bool" = none) (m_int : mg "int" = none) (m_isinstance : mg "isinstance" = none) (m_len : mg "len" = none) (m_list : mg "list" = none) (m_str : mg "str" = none) (m_tuple : mg "tuple" = none) (m_zip : mg "zip" = none) : FnE P w K mg base (2 * d + 3 + 1) f fd ["got", "goal"] G cl (frm (runB 4 (F__law_same T))) :=
  FnE.frm (ok_E F sc__law_same fun cdv A outer s H E hr => by
    have hu := hr.units
    exact (ss_cons (ss_if (st_tru hK (se_isi2 (t := Kd.list) (t' := Kd.tuple) hK m_isinstance rfl (se_w 1) (pe_bltn rfl m_list (by decide +kernel) rfl) (pe_bltn rfl m_tuple (by decide +kernel) rfl) rfl rfl rfl rfl rfl) (by intro _; rfl)) (ss_cons (ss_if (SW.st (sw_or (st_ne hK hu (se_isi (t := Kd.list) hK m_isinstance rfl (se_w 0) (pe_bltn rfl m_list (by decide +kernel) rfl) rfl rfl rfl) (se_isi (t := Kd.list) hK m_isinstance rfl (se_w 1) (pe_bltn rfl m_list (by decide +kernel) rfl) rfl rfl rfl)) (sw_or1 (st_ne hK hu (se_isi (t := Kd.tuple) hK m_isinstance rfl (se_w 0) (pe_bltn rfl m_tuple (by decide +kernel) rfl) rfl rfl rfl) (se_isi (t := Kd.tuple) hK m_isinstance rfl (se_w 1) (pe_bltn rfl m_tuple (by decide +kernel) rfl) rfl rfl rfl))))) (ss_cons (ss_ret se_bl)
      ss_nil) ss_nil)
      (ss_cons (ss_ret (se_and (se_eq hK hu (se_len3 hK ⟨hP, hW⟩ m_len rfl (sa_cons (se_w 0) sa_nil rfl) rfl rfl) (se_len3 hK ⟨hP, hW⟩ m_len rfl (sa_cons (se_w 1) sa_nil rfl) rfl rfl)) (se_one (se_all hK rfl m_all rfl (sa_cons (se_compL (own := [("mine_so", 2), ("own", 3)]) hW rfl sc__law_same.nd ⟨_, _, rfl, rfl, rfl⟩ (takesH_of (takes_of rfl rfl rfl rfl) rfl) (si_or (ltR (aC (eV 0) (aC (eV 1) aN))) (si_zipM hK rfl m_zip (sa_cons (se_w 0) (sa_cons (se_w 1) sa_nil rfl) rfl) rfl rfl) (si_zip hK rfl m_zip (sa_cons (se_w 0) (sa_cons (se_w 1) sa_nil rfl) rfl) rfl rfl)) (blkOk_by (own := [("mine_so", 2), ("own", 3)]) (show blkC ["got", "goal", "mine_so", "own"] (defScope s__law_same) _ _ = true by decide +kernel)) (fun _ => trivial) (fun Wk1 _ _ _ _ _ tk1 th1 st1 lk1 => (sg_tl hK (n := 2) rfl (sgs_cons (sg_n (pg_name (i := 2) sc__law_same.nd rfl (by first | exact Or.inl rfl | exact Or.inr rfl))) (sgs_cons (sg_n (pg_name (i := 3) sc__law_same.nd rfl (by first | exact Or.inl rfl | exact Or.inr rfl))) sgs_nil rfl) rfl) rfl rfl)) (fun Wk1 _ _ _ _ _ tk1 th1 st1 lk1 => sts_nil) (fun Wk1 _ _ _ _ _ tk1 th1 st1 lk1 => (sb_l rfl (se_call D.d13 tk1 (hr.mono (Nat.le_succ _)) rfl (sa_cons (se_w 2) (sa_cons (se_w 3) sa_nil rfl) rfl) (by decide) rfl rfl rfl))) (by decide) (by decide) (by intro _; rfl)) sa_nil rfl) rfl rfl))))
      ss_nil)) ss_nil)
      (ss_cons (ss_if (SW.st (sw_or (st_isN (se_w 1) se_non) (sw_or1 (st_tru hK (se_isi2 (t := Kd.bool) (t' := Kd.str) hK m_isinstance rfl (se_w 1) (pe_bltn rfl m_bool (by decide +kernel) rfl) (pe_bltn rfl m_str (by decide +kernel) rfl) rfl rfl rfl rfl rfl) (by intro _; rfl))))) (ss_cons (ss_ret (se_and (se_eq hK hu (se_w 0) (se_w 1)) (se_and (se_eq hK hu (se_isi (t := Kd.bool) hK m_isinstance rfl (se_w 0) (pe_bltn rfl m_bool (by decide +kernel) rfl) rfl rfl rfl) (se_isi (t := Kd.bool) hK m_isinstance rfl (se_w 1) (pe_bltn rfl m_bool (by decide +kernel) rfl) rfl rfl rfl)) (se_one (se_eq hK hu (se_isN (se_w 0) se_non) (se_isN (se_w 1) se_non))))))
      ss_nil) ss_nil)
      (ss_cons (ss_ret (se_and (se_isi (t := Kd.int) hK m_isinstance rfl (se_w 0) (pe_bltn rfl m_int (by decide +kernel) rfl) rfl rfl rfl) (se_and (se_notT hK (se_isi (t := Kd.bool) hK m_isinstance rfl (se_w 0) (pe_bltn rfl m_bool (by decide +kernel) rfl) rfl rfl rfl)) (se_one (se_eq hK hu (se_w 0) (se_w 1))))))
      ss_nil))))
theorem ok__law_word (F : Fun K "_law_word" "_law_word" s__law_word f fd) (hK : K = G.K) (hP : P = G.prog) (hW : w = G.wo) (hX : GX G NM TX) (D : Ds P w K mg base G cl T d) (m_range : mg "range" = none) (m_tuple : mg "tuple" = none) : FnE P w K mg base (2 * d + 3 + 1) f fd ["urn", "most", "kinds_so"] G cl (runB 4 (F__law_word T)) :=
  ok_E F sc__law_word fun cdv A outer s H E hr => by
    have hu := hr.units
    exact (ss_cons (ss_ret (se_tupOf hK m_tuple rfl (sa_cons (se_compL (own := [("k", 3)]) hW rfl sc__law_word.nd ⟨_, _, rfl, rfl, rfl⟩ (takesH_of (takes_of rfl rfl rfl rfl) rfl) (si_r1 rfl m_range (sa_cons (se_call D.d11 (takes_of rfl rfl rfl rfl) (hr.mono (Nat.le_succ _)) rfl (sa_cons (se_w 0) (sa_cons (se_add hK (se_w 1) se_int) sa_nil rfl) rfl) (by decide) rfl rfl rfl) sa_nil rfl) rfl) (blkOk_by (own := [("k", 3)]) (show blkC ["urn", "most", "kinds_so", "k"] (defScope s__law_word) _ _ = true by decide +kernel)) (fun _ => trivial) (fun Wk1 _ _ _ _ _ tk1 th1 st1 lk1 => (sg_n (pg_name (i := 3) sc__law_word.nd rfl (by first | exact Or.inl rfl | exact Or.inr rfl)))) (fun Wk1 _ _ _ _ _ tk1 th1 st1 lk1 => sts_nil) (fun Wk1 _ _ _ _ _ tk1 th1 st1 lk1 => (sb_l rfl (se_call D.d11 tk1 (hr.mono (Nat.le_succ _)) rfl (sa_cons (se_w 0) (sa_cons (se_w 2) sa_nil rfl) rfl) (by decide) rfl rfl rfl))) (by decide) (by decide) (by intro _; rfl)) sa_nil rfl) rfl rfl))
      ss_nil)
theorem ok__law_root (F : Fun K "_law_root" "_law_root" s__law_root f fd) (hK : K = G.K) (hP : P = G.prog) (hW : w = G.wo) (hX : GX G NM TX) (D : Ds P w K mg base G cl T d) (m_all : mg "all" = none) (m_len : mg "len" = none) (m_range : mg "range" = none) : FnE P w K mg base (2 * d + 3 + 1) f fd ["word"] G cl (frm (runB 3 (F__law_root T))) :=
  FnE.frm (ok_E F sc__law_root fun cdv A outer s H E hr => by
    have hu := hr.units
    exact (ss_cons (ss_for (passes_of rfl) rfl (si_r2 rfl m_range (sa_cons se_int (sa_cons (se_add hK (se_len3 hK ⟨hP, hW⟩ m_len rfl (sa_cons (se_w 0) sa_nil rfl) rfl rfl) se_int) sa_nil rfl) rfl) rfl rfl) (sg_n (pg_name (i := 1) sc__law_root.nd rfl (by first | exact Or.inl rfl | exact Or.inr rfl))) (ss_cons (ss_if (SW.st (sw_and (st_eq hK hu (se_mod (se_len3 hK ⟨hP, hW⟩ m_len rfl (sa_cons (se_w 0) sa_nil rfl) rfl rfl) (se_w 1)) se_int) (sw_and1 (st_tru hK (se_all hK rfl m_all rfl (sa_cons (se_lc (own := [("k", 2)]) rfl sc__law_root.nd (si_r1 rfl m_range (sa_cons (se_len3 hK ⟨hP, hW⟩ m_len rfl (sa_cons (se_w 0) sa_nil rfl) rfl rfl) sa_nil rfl) rfl) (blkOk_by (own := [("k", 2)]) (show blkC ["word", "size", "k"] (defScope s__law_root) _ _ = true by decide +kernel)) (fun _ _ _ _ _ => (sg_n (pg_name (i := 2) sc__law_root.nd rfl (by first | exact Or.inl rfl | exact Or.inr rfl)))) (fun _ _ _ _ _ => sts_nil) (fun _ _ _ _ _ => (se_eq hK hu (se_ix2 hK ⟨hP, hW⟩ (room65 hr) (se_w 0) (se_w 2) (by exact fun _ _ => rfl)) (se_ix2 hK ⟨hP, hW⟩ (room65 hr) (se_w 0) (se_mod (se_w 2) (se_w 1)) (by exact fun _ _ => rfl)))) (by decide) (by intro _; rfl)) sa_nil rfl) rfl rfl) (by intro _; rfl))))) (ss_cons (ss_ret (se_tup (sa_cons (se_sl hK (se_w 0) so_none (so_some (se_w 1))) (sa_cons (se_div (se_len3 hK ⟨hP, hW⟩ m_len rfl (sa_cons (se_w 0) sa_nil rfl) rfl rfl) (se_w 1)) sa_nil rfl) rfl)))
      ss_nil) ss_nil)
      ss_nil) (by intro _; rfl))
      (ss_cons (ss_ret se_non)
      ss_nil)))
theorem ok__law_common (F : Fun K "_law_common" "_law_common" s__law_common f fd) (hK : K = G.K) (hP : P = G.prog) (hW : w = G.wo) (hX : GX G NM TX) (D : Ds P w K mg base G cl T d) : FnE P w K mg base (2 * d + 3 + 1) f fd ["words_so"] G cl (runB 1 (F__law_common T)) :=
  ok_E F sc__law_common fun cdv A outer s H E hr => by
    have hu := hr.units
    exact (ss_cons (ss_try rfl rfl (takes_of rfl rfl rfl rfl) (fun W pn xe tk po => (ss_cons (ss_ret (se_call D.d5 tk (hr.mono (Nat.le_succ _)) rfl (sa_cons (se_w 0) sa_nil rfl) (by decide) rfl rfl rfl))
      ss_nil)) (.cons rfl (by decide) D.n_CanNot (fun _ _ _ => (ss_cons (ss_ret (se_lst (sa_cons se_str sa_nil rfl)))
      ss_nil)) HE.nil))
      ss_nil)
theorem ok__law_right (F : Fun K "_law_right" "_law_right" s__law_right f fd) (hK : K = G.K) (hP : P = G.prog) (hW : w = G.wo) (hX : GX G NM TX) (D : Ds P w K mg base G cl T d) (m_all : mg "all" = none) (m_len : mg "len" = none) (m_min : mg "min" = none) (m_range : mg "range" = none) (m_tuple : mg "tuple" = none) : FnE P w K mg base (2 * d + 3 + 1) f fd ["urn"] G cl (runB 20 (F__law_right T)) :=
  ok_E F sc__law_right fun cdv A outer s H E hr => by
    have hu := hr.units
    exact (ss_cons (ss_set (i := 1) sc__law_right.nd rfl (by first | exact Or.inl rfl | exact Or.inr rfl) (se_add hK (se_call D.d14 (takes_of rfl rfl rfl rfl) (hr.mono (Nat.le_succ _)) rfl (sa_cons (se_w 0) (sa_cons se_int (sa_cons se_int sa_nil rfl) rfl) rfl) (by decide) rfl rfl rfl) (se_tup (sa_cons (se_call D.d11 (takes_of rfl rfl rfl rfl) (hr.mono (Nat.le_succ _)) rfl (sa_cons (se_w 0) (sa_cons se_int sa_nil rfl) rfl) (by decide) rfl rfl rfl) sa_nil rfl))) rfl (by first | exact Or.inl rfl | exact Or.inr rfl))
      (ss_cons (ss_set (i := 2) sc__law_right.nd rfl (by first | exact Or.inl rfl | exact Or.inr rfl) (se_mul hK (se_w 1) (se_add hK se_int (se_call D.d11 (takes_of rfl rfl rfl rfl) (hr.mono (Nat.le_succ _)) rfl (sa_cons (se_w 0) (sa_cons se_int sa_nil rfl) rfl) (by decide) rfl rfl rfl))) rfl (by first | exact Or.inl rfl | exact Or.inr rfl))
      (ss_cons (ss_set (i := 3) sc__law_right.nd rfl (by first | exact Or.inl rfl | exact Or.inr rfl) (se_if (st_eq hK hu (se_call D.d11 (takes_of rfl rfl rfl rfl) (hr.mono (Nat.le_succ _)) rfl (sa_cons (se_w 0) (sa_cons se_int sa_nil rfl) rfl) (by decide) rfl rfl rfl) se_int) (se_mul hK (se_w 1) (se_call D.d11 (takes_of rfl rfl rfl rfl) (hr.mono (Nat.le_succ _)) rfl (sa_cons (se_w 0) (sa_cons se_int sa_nil rfl) rfl) (by decide) rfl rfl rfl)) (se_call D.d14 (takes_of rfl rfl rfl rfl) (hr.mono (Nat.le_succ _)) rfl (sa_cons (se_w 0) (sa_cons se_int (sa_cons se_int sa_nil rfl) rfl) rfl) (by decide) rfl rfl rfl)) rfl (by first | exact Or.inl rfl | exact Or.inr rfl))
      (ss_cons (ss_set (i := 4) sc__law_right.nd rfl (by first | exact Or.inl rfl | exact Or.inr rfl) (se_if (st_eq hK hu (se_call D.d11 (takes_of rfl rfl rfl rfl) (hr.mono (Nat.le_succ _)) rfl (sa_cons (se_w 0) (sa_cons se_int sa_nil rfl) rfl) (by decide) rfl rfl rfl) se_int) (se_call D.d14 (takes_of rfl rfl rfl rfl) (hr.mono (Nat.le_succ _)) rfl (sa_cons (se_w 0) (sa_cons se_int (sa_cons se_int sa_nil rfl) rfl) rfl) (by decide) rfl rfl rfl) (se_mul hK (se_w 1) (se_call D.d11 (takes_of rfl rfl rfl rfl) (hr.mono (Nat.le_succ _)) rfl (sa_cons (se_w 0) (sa_cons se_int sa_nil rfl) rfl) (by decide) rfl rfl rfl))) rfl (by first | exact Or.inl rfl | exact Or.inr rfl))
      (ss_cons (ss_asg (se_tup (sa_cons (se_call D.d15 (takes_of rfl rfl rfl rfl) (hr.mono (Nat.le_succ _)) rfl (sa_cons (se_w 2) sa_nil rfl) (by decide) rfl rfl rfl) (sa_cons (se_call D.d11 (takes_of rfl rfl rfl rfl) (hr.mono (Nat.le_succ _)) rfl (sa_cons (se_w 0) (sa_cons se_int sa_nil rfl) rfl) (by decide) rfl rfl rfl) sa_nil rfl) rfl)) (sg_tl hK (n := 2) rfl (sgs_cons (sg_n (pg_name (i := 5) sc__law_right.nd rfl (by first | exact Or.inl rfl | exact Or.inr rfl))) (sgs_cons (sg_n (pg_name (i := 6) sc__law_right.nd rfl (by first | exact Or.inl rfl | exact Or.inr rfl))) sgs_nil rfl) rfl) rfl rfl) (by rfl) (by rfl) (by rfl))
      (ss_cons (ss_par (i := 7) (j := 8) rfl sc__law_right.nd rfl rfl (by decide) rfl rfl (sa_cons (se_lst (sa_cons (se_call D.d3 (takes_of rfl rfl rfl rfl) (hr.mono (Nat.le_succ _)) rfl (sa_cons (se_w 2) sa_nil rfl) (by decide) rfl rfl rfl) (sa_cons (se_call D.d2 (takes_of rfl rfl rfl rfl) (hr.mono (Nat.le_succ _)) rfl (sa_cons (se_ix2 hK ⟨hP, hW⟩ (room65 hr) (se_w 5) se_int (by exact fun _ _ => rfl)) (sa_cons (se_ix2 hK ⟨hP, hW⟩ (room65 hr) (se_w 5) se_int (by exact fun _ _ => rfl)) sa_nil rfl) rfl) (by decide) rfl rfl rfl) (sa_cons (se_call D.d2 (takes_of rfl rfl rfl rfl) (hr.mono (Nat.le_succ _)) rfl (sa_cons (se_w 3) (sa_cons (se_w 6) sa_nil rfl) rfl) (by decide) rfl rfl rfl) sa_nil rfl) rfl) rfl)) (sa_cons (se_lst (sa_cons (se_w 5) (sa_cons (se_w 2) (sa_cons (se_mul hK (se_w 3) (se_w 6)) sa_nil rfl) rfl) rfl)) sa_nil rfl) rfl) (by rfl) (by rfl))
      (ss_cons (ss_for (passes_of rfl) rfl (si_v3 hK (se_tup (sa_cons (se_w 3) (sa_cons (se_w 4) sa_nil rfl) rfl))) (sg_n (pg_name (i := 9) sc__law_right.nd rfl (by first | exact Or.inl rfl | exact Or.inr rfl))) (ss_cons (ss_set (i := 10) sc__law_right.nd rfl (by first | exact Or.inl rfl | exact Or.inr rfl) (se_orT hK (se_eq hK hu (se_w 9) (se_tup sa_nil)) (se_one (se_eq hK hu (se_ix2 hK ⟨hP, hW⟩ (room65 hr) (se_call D.d15 (takes_of rfl rfl rfl rfl) (hr.mono (Nat.le_succ _)) rfl (sa_cons (se_w 9) sa_nil rfl) (by decide) rfl rfl rfl) se_int (by exact fun _ _ => rfl)) (se_ix2 hK ⟨hP, hW⟩ (room65 hr) (se_w 5) se_int (by exact fun _ _ => rfl))))) rfl (by first | exact Or.inl rfl | exact Or.inr rfl))
      (ss_cons (ss_set (i := 11) sc__law_right.nd rfl (by first | exact Or.inl rfl | exact Or.inr rfl) (se_add hK (se_len3 hK ⟨hP, hW⟩ m_len rfl (sa_cons (se_w 2) sa_nil rfl) rfl rfl) (se_len3 hK ⟨hP, hW⟩ m_len rfl (sa_cons (se_w 9) sa_nil rfl) rfl rfl)) rfl (by first | exact Or.inl rfl | exact Or.inr rfl))
      (ss_cons (ss_set (i := 12) sc__law_right.nd rfl (by first | exact Or.inl rfl | exact Or.inr rfl) (se_and (se_ne hK hu (se_w 9) (se_tup sa_nil)) (se_one (se_all hK rfl m_all rfl (sa_cons (se_lc (own := [("k", 13)]) rfl sc__law_right.nd (si_r1 rfl m_range (sa_cons (se_w 11) sa_nil rfl) rfl) (blkOk_by (own := [("k", 13)]) (show blkC ["urn", "base", "one", "other", "third", "root", "many", "heard", "due", "own", "like", "far", "rows_so", "k", "spot", "full", "alike", "start", "turn", "piece"] (defScope s__law_right) _ _ = true by decide +kernel)) (fun _ _ _ _ _ => (sg_n (pg_name (i := 13) sc__law_right.nd rfl (by first | exact Or.inl rfl | exact Or.inr rfl)))) (fun _ _ _ _ _ => sts_nil) (fun _ _ _ _ _ => (se_eq hK hu (se_ix2 hK ⟨hP, hW⟩ (room65 hr) (se_w 2) (se_mod (se_w 13) (se_len3 hK ⟨hP, hW⟩ m_len rfl (sa_cons (se_w 2) sa_nil rfl) rfl rfl)) (by exact fun _ _ => rfl)) (se_ix2 hK ⟨hP, hW⟩ (room65 hr) (se_w 9) (se_mod (se_w 13) (se_len3 hK ⟨hP, hW⟩ m_len rfl (sa_cons (se_w 9) sa_nil rfl) rfl rfl)) (by exact fun _ _ => rfl)))) (by decide) (by intro _; rfl)) sa_nil rfl) rfl rfl))) rfl (by first | exact Or.inl rfl | exact Or.inr rfl))
      (ss_cons (ss_set (i := 7) sc__law_right.nd rfl (by first | exact Or.inl rfl | exact Or.inr rfl) (se_add hK (se_w 7) (se_lst (sa_cons (se_call D.d4 (takes_of rfl rfl rfl rfl) (hr.mono (Nat.le_succ _)) rfl (sa_cons (se_w 2) (sa_cons (se_w 9) sa_nil rfl) rfl) (by decide) rfl rfl rfl) (sa_cons (se_call D.d4 (takes_of rfl rfl rfl rfl) (hr.mono (Nat.le_succ _)) rfl (sa_cons (se_w 9) (sa_cons (se_w 2) sa_nil rfl) rfl) (by decide) rfl rfl rfl) (sa_cons (se_call D.d4 (takes_of rfl rfl rfl rfl) (hr.mono (Nat.le_succ _)) rfl (sa_cons (se_w 2) (sa_cons (se_w 9) sa_nil rfl) rfl) (by decide) rfl rfl rfl) sa_nil rfl) rfl) rfl))) rfl (by first | exact Or.inl rfl | exact Or.inr rfl))
      (ss_cons (ss_set (i := 8) sc__law_right.nd rfl (by first | exact Or.inl rfl | exact Or.inr rfl) (se_add hK (se_w 8) (se_lst (sa_cons (se_w 10) (sa_cons (se_w 10) (sa_cons (se_orT hK (se_eq hK hu (se_w 9) (se_tup sa_nil)) (se_one (se_w 12))) sa_nil rfl) rfl) rfl))) rfl (by first | exact Or.inl rfl | exact Or.inr rfl))
      (ss_cons (ss_lc (i := 14) (own := [("k", 13)]) rfl sc__law_right.nd rfl rfl (sw_true rfl rfl rfl (by decide +kernel)) (si_r1 rfl m_range (sa_cons (se_min2 rfl m_min rfl (sa_cons (se_len3 hK ⟨hP, hW⟩ m_len rfl (sa_cons (se_w 2) sa_nil rfl) rfl rfl) (sa_cons (se_len3 hK ⟨hP, hW⟩ m_len rfl (sa_cons (se_w 9) sa_nil rfl) rfl rfl) sa_nil rfl) rfl) rfl rfl) sa_nil rfl) rfl) (blkOk_by (own := [("k", 13)]) (show blkC ["urn", "base", "one", "other", "third", "root", "many", "heard", "due", "own", "like", "far", "rows_so", "k", "spot", "full", "alike", "start", "turn", "piece"] (defScope s__law_right) _ _ = true by decide +kernel)) (fun _ _ _ _ _ => (sg_n (pg_name (i := 13) sc__law_right.nd rfl (by first | exact Or.inl rfl | exact Or.inr rfl)))) (fun _ _ _ _ _ => sts_one (st_ne hK hu (se_ix2 hK ⟨hP, hW⟩ (room65 hr) (se_w 2) (se_w 13) (by exact fun _ _ => rfl)) (se_ix2 hK ⟨hP, hW⟩ (room65 hr) (se_w 9) (se_w 13) (by exact fun _ _ => rfl)))) (fun _ _ _ _ _ => (se_w 13)) (by decide) (by intro _; rfl))
      (ss_cons (ss_set (i := 7) sc__law_right.nd rfl (by first | exact Or.inl rfl | exact Or.inr rfl) (se_add hK (se_w 7) (se_lst (sa_cons (se_call D.d9 (takes_of rfl rfl rfl rfl) (hr.mono (Nat.le_succ _)) rfl (sa_cons (se_w 2) (sa_cons (se_w 9) sa_nil rfl) rfl) (by decide) rfl rfl rfl) (sa_cons (se_call D.d9 (takes_of rfl rfl rfl rfl) (hr.mono (Nat.le_succ _)) rfl (sa_cons (se_w 9) (sa_cons (se_w 2) sa_nil rfl) rfl) (by decide) rfl rfl rfl) sa_nil rfl) rfl))) rfl (by first | exact Or.inl rfl | exact Or.inr rfl))
      (ss_cons (ss_set (i := 8) sc__law_right.nd rfl (by first | exact Or.inl rfl | exact Or.inr rfl) (se_add hK (se_w 8) (se_mul hK (se_lst (sa_cons (se_if (st_gt (se_len3 hK ⟨hP, hW⟩ m_len rfl (sa_cons (se_w 14) sa_nil rfl) rfl rfl) se_int) (se_ix2 hK ⟨hP, hW⟩ (room65 hr) (se_w 14) se_int (by exact fun _ _ => rfl)) se_non) sa_nil rfl)) se_int)) rfl (by first | exact Or.inl rfl | exact Or.inr rfl))
      ss_nil)))))))) (by intro _; rfl))
      (ss_cons (ss_lc (i := 15) (own := [("own", 9)]) rfl sc__law_right.nd rfl rfl (sw_true rfl rfl rfl (by decide +kernel)) (si_v3 hK (se_tup (sa_cons (se_w 2) (sa_cons (se_w 3) (sa_cons (se_w 4) sa_nil rfl) rfl) rfl))) (blkOk_by (own := [("own", 9)]) (show blkC ["urn", "base", "one", "other", "third", "root", "many", "heard", "due", "own", "like", "far", "rows_so", "k", "spot", "full", "alike", "start", "turn", "piece"] (defScope s__law_right) _ _ = true by decide +kernel)) (fun _ _ _ _ _ => (sg_n (pg_name (i := 9) sc__law_right.nd rfl (by first | exact Or.inl rfl | exact Or.inr rfl)))) (fun _ _ _ _ _ => sts_one (st_ne hK hu (se_w 9) (se_tup sa_nil))) (fun _ _ _ _ _ => (se_w 9)) (by decide) (by intro _; rfl))
      (ss_cons (ss_un (ss_set (i := 16) sc__law_right.nd rfl (by first | exact Or.inl rfl | exact Or.inr rfl) (se_all hK rfl m_all rfl (sa_cons (se_compL (own := [("own", 9)]) hW rfl sc__law_right.nd ⟨_, _, rfl, rfl, rfl⟩ (takesH_of (takes_of rfl rfl rfl rfl) rfl) (si_v3 hK (se_w 15)) (blkOk_by (own := [("own", 9)]) (show blkC ["urn", "base", "one", "other", "third", "root", "many", "heard", "due", "own", "like", "far", "rows_so", "k", "spot", "full", "alike", "start", "turn", "piece"] (defScope s__law_right) _ _ = true by decide +kernel)) (fun _ => trivial) (fun Wk1 _ _ _ _ _ tk1 th1 st1 lk1 => (sg_n (pg_name (i := 9) sc__law_right.nd rfl (by first | exact Or.inl rfl | exact Or.inr rfl)))) (fun Wk1 _ _ _ _ _ tk1 th1 st1 lk1 => sts_nil) (fun Wk1 _ _ _ _ _ tk1 th1 st1 lk1 => (sb_l rfl (se_eq hK hu (se_ix2 hK ⟨hP, hW⟩ (room65 hr) (se_call D.d15 tk1 (hr.mono (Nat.le_succ _)) rfl (sa_cons (se_w 9) sa_nil rfl) (by decide) rfl rfl rfl) se_int (by exact fun _ _ => rfl)) (se_ix2 hK ⟨hP, hW⟩ (room65 hr) (se_w 5) se_int (by exact fun _ _ => rfl))))) (by decide) (by decide) (by intro _; rfl)) sa_nil rfl) rfl rfl) rfl (by first | exact Or.inl rfl | exact Or.inr rfl)))
      (ss_cons (ss_set (i := 7) sc__law_right.nd rfl (by first | exact Or.inl rfl | exact Or.inr rfl) (se_add hK (se_w 7) (se_lst (sa_cons (se_call D.d16 (takes_of rfl rfl rfl rfl) (hr.mono (Nat.le_succ _)) rfl (sa_cons (se_tup (sa_cons (se_w 2) (sa_cons (se_w 3) (sa_cons (se_w 4) sa_nil rfl) rfl) rfl)) sa_nil rfl) (by decide) rfl rfl rfl) (sa_cons (se_call D.d16 (takes_of rfl rfl rfl rfl) (hr.mono (Nat.le_succ _)) rfl (sa_cons (se_tup (sa_cons (se_w 4) (sa_cons (se_w 3) (sa_cons (se_w 2) sa_nil rfl) rfl) rfl)) sa_nil rfl) (by decide) rfl rfl rfl) sa_nil rfl) rfl))) rfl (by first | exact Or.inl rfl | exact Or.inr rfl))
      (ss_cons (ss_set (i := 8) sc__law_right.nd rfl (by first | exact Or.inl rfl | exact Or.inr rfl) (se_add hK (se_w 8) (se_mul hK (se_lst (sa_cons (se_if (st_tru hK (se_w 16) (by intro _; rfl)) (se_ix2 hK ⟨hP, hW⟩ (room65 hr) (se_w 5) se_int (by exact fun _ _ => rfl)) (se_lst (sa_cons se_str sa_nil rfl))) sa_nil rfl)) se_int)) rfl (by first | exact Or.inl rfl | exact Or.inr rfl))
      (ss_cons (ss_set (i := 17) sc__law_right.nd rfl (by first | exact Or.inl rfl | exact Or.inr rfl) (se_call D.d11 (takes_of rfl rfl rfl rfl) (hr.mono (Nat.le_succ _)) rfl (sa_cons (se_w 0) (sa_cons se_int sa_nil rfl) rfl) (by decide) rfl rfl rfl) rfl (by first | exact Or.inl rfl | exact Or.inr rfl))
      (ss_cons (ss_set (i := 18) sc__law_right.nd rfl (by first | exact Or.inl rfl | exact Or.inr rfl) (se_w 2) rfl (by first | exact Or.inl rfl | exact Or.inr rfl))
      (ss_cons (ss_for (passes_of rfl) rfl (si_r1 rfl m_range (sa_cons (se_w 17) sa_nil rfl) rfl) (sg_n (pg_name (i := 13) sc__law_right.nd rfl (by first | exact Or.inl rfl | exact Or.inr rfl))) (ss_cons (ss_set (i := 18) sc__law_right.nd rfl (by first | exact Or.inl rfl | exact Or.inr rfl) (se_add hK (se_sl hK (se_w 18) (so_some se_int) so_none) (se_sl hK (se_w 18) so_none (so_some se_int))) rfl (by first | exact Or.inl rfl | exact Or.inr rfl))
      ss_nil) (by intro _; rfl))
      (ss_cons (ss_set (i := 7) sc__law_right.nd rfl (by first | exact Or.inl rfl | exact Or.inr rfl) (se_add hK (se_w 7) (se_lst (sa_cons (se_call D.d6 (takes_of rfl rfl rfl rfl) (hr.mono (Nat.le_succ _)) rfl (sa_cons (se_w 2) (sa_cons (se_w 17) sa_nil rfl) rfl) (by decide) rfl rfl rfl) (sa_cons (se_call D.d6 (takes_of rfl rfl rfl rfl) (hr.mono (Nat.le_succ _)) rfl (sa_cons (se_w 2) (sa_cons (se_add hK (se_w 17) (se_mul hK (se_len3 hK ⟨hP, hW⟩ m_len rfl (sa_cons (se_w 2) sa_nil rfl) rfl rfl) (se_pow se_int se_int))) sa_nil rfl) rfl) (by decide) rfl rfl rfl) (sa_cons (se_call D.d7 (takes_of rfl rfl rfl rfl) (hr.mono (Nat.le_succ _)) rfl (sa_cons (se_w 2) (sa_cons (se_w 17) (sa_cons (se_w 6) sa_nil rfl) rfl) rfl) (by decide) rfl rfl rfl) (sa_cons (se_call D.d8 (takes_of rfl rfl rfl rfl) (hr.mono (Nat.le_succ _)) rfl (sa_cons (se_w 2) (sa_cons (se_w 17) (sa_cons (se_w 3) sa_nil rfl) rfl) rfl) (by decide) rfl rfl rfl) (sa_cons (se_call D.d7 (takes_of rfl rfl rfl rfl) (hr.mono (Nat.le_succ _)) rfl (sa_cons (se_w 2) (sa_cons (se_add hK (se_w 17) (se_mul hK (se_len3 hK ⟨hP, hW⟩ m_len rfl (sa_cons (se_w 2) sa_nil rfl) rfl rfl) (se_pow se_int se_int))) (sa_cons (se_w 6) sa_nil rfl) rfl) rfl) (by decide) rfl rfl rfl) sa_nil rfl) rfl) rfl) rfl) rfl))) rfl (by first | exact Or.inl rfl | exact Or.inr rfl))
      (ss_cons (ss_set (i := 19) sc__law_right.nd rfl (by first | exact Or.inl rfl | exact Or.inr rfl) (se_tupOf hK m_tuple rfl (sa_cons (se_lc (own := [("k", 13)]) rfl sc__law_right.nd (si_r1 rfl m_range (sa_cons (se_w 6) sa_nil rfl) rfl) (blkOk_by (own := [("k", 13)]) (show blkC ["urn", "base", "one", "other", "third", "root", "many", "heard", "due", "own", "like", "far", "rows_so", "k", "spot", "full", "alike", "start", "turn", "piece"] (defScope s__law_right) _ _ = true by decide +kernel)) (fun _ _ _ _ _ => (sg_n (pg_name (i := 13) sc__law_right.nd rfl (by first | exact Or.inl rfl | exact Or.inr rfl)))) (fun _ _ _ _ _ => sts_nil) (fun _ _ _ _ _ => (se_ix2 hK ⟨hP, hW⟩ (room65 hr) (se_mul hK (se_w 2) se_int) (se_add hK (se_w 17) (se_w 13)) (by exact fun _ _ => rfl))) (by decide) (by intro _; rfl)) sa_nil rfl) rfl rfl) rfl (by first | exact Or.inl rfl | exact Or.inr rfl))
      (ss_cons (ss_set (i := 8) sc__law_right.nd rfl (by first | exact Or.inl rfl | exact Or.inr rfl) (se_add hK (se_w 8) (se_lst (sa_cons (se_w 18) (sa_cons (se_w 18) (sa_cons (se_w 19) (sa_cons (se_all hK rfl m_all rfl (sa_cons (se_lc (own := [("k", 13)]) rfl sc__law_right.nd (si_r1 rfl m_range (sa_cons (se_len3 hK ⟨hP, hW⟩ m_len rfl (sa_cons (se_w 3) sa_nil rfl) rfl rfl) sa_nil rfl) rfl) (blkOk_by (own := [("k", 13)]) (show blkC ["urn", "base", "one", "other", "third", "root", "many", "heard", "due", "own", "like", "far", "rows_so", "k", "spot", "full", "alike", "start", "turn", "piece"] (defScope s__law_right) _ _ = true by decide +kernel)) (fun _ _ _ _ _ => (sg_n (pg_name (i := 13) sc__law_right.nd rfl (by first | exact Or.inl rfl | exact Or.inr rfl)))) (fun _ _ _ _ _ => sts_nil) (fun _ _ _ _ _ => (se_eq hK hu (se_ix2 hK ⟨hP, hW⟩ (room65 hr) (se_mul hK (se_w 2) se_int) (se_add hK (se_w 17) (se_w 13)) (by exact fun _ _ => rfl)) (se_ix2 hK ⟨hP, hW⟩ (room65 hr) (se_w 3) (se_w 13) (by exact fun _ _ => rfl)))) (by decide) (by intro _; rfl)) sa_nil rfl) rfl rfl) (sa_cons (se_w 19) sa_nil rfl) rfl) rfl) rfl) rfl))) rfl (by first | exact Or.inl rfl | exact Or.inr rfl))
      (ss_cons (ss_ret (se_call D.d13 (takes_of rfl rfl rfl rfl) (hr.mono (Nat.le_succ _)) rfl (sa_cons (se_w 7) (sa_cons (se_w 8) sa_nil rfl) rfl) (by decide) rfl rfl rfl))
      ss_nil))))))))))))))))))
theorem ok__law_by_hand_right (F : Fun K "_law_by_hand_right" "_law_by_hand_right" s__law_by_hand_right f fd) (hK : K = G.K) (hP : P = G.prog) (hW : w = G.wo) (hX : GX G NM TX) (D : Ds P w K mg base G cl T d) : FnE P w K mg base (2 * d + 3 + 1) f fd [] G cl (frm (runB 1 (F__law_by_hand_right T))) :=
  FnE.frm (ok_E F sc__law_by_hand_right fun cdv A outer s H E hr => by
    have hu := hr.units
    exact (ss_cons (ss_set (i := 0) sc__law_by_hand_right.nd rfl (by first | exact Or.inl rfl | exact Or.inr rfl) (se_lst (sa_cons (se_call D.d3 (takes_of rfl rfl rfl rfl) (hr.mono (Nat.le_succ _)) rfl (sa_cons (se_tup (sa_cons se_int (sa_cons se_int (sa_cons se_int (sa_cons se_int sa_nil rfl) rfl) rfl) rfl)) sa_nil rfl) (by decide) rfl rfl rfl) (sa_cons (se_call D.d5 (takes_of rfl rfl rfl rfl) (hr.mono (Nat.le_succ _)) rfl (sa_cons (se_tup (sa_cons (se_tup (sa_cons se_int (sa_cons se_int sa_nil rfl) rfl)) (sa_cons (se_tup (sa_cons se_int sa_nil rfl)) sa_nil rfl) rfl)) sa_nil rfl) (by decide) rfl rfl rfl) (sa_cons (se_call D.d4 (takes_of rfl rfl rfl rfl) (hr.mono (Nat.le_succ _)) rfl (sa_cons (se_tup (sa_cons se_int (sa_cons se_int sa_nil rfl) rfl)) (sa_cons (se_tup (sa_cons se_int (sa_cons se_int sa_nil rfl) rfl)) sa_nil rfl) rfl) (by decide) rfl rfl rfl) (sa_cons (se_call D.d6 (takes_of rfl rfl rfl rfl) (hr.mono (Nat.le_succ _)) rfl (sa_cons (se_tup (sa_cons se_int (sa_cons se_int (sa_cons se_int sa_nil rfl) rfl) rfl)) (sa_cons se_int sa_nil rfl) rfl) (by decide) rfl rfl rfl) sa_nil rfl) rfl) rfl) rfl)) rfl (by first | exact Or.inl rfl | exact Or.inr rfl))
      (ss_cons (ss_set (i := 0) sc__law_by_hand_right.nd rfl (by first | exact Or.inl rfl | exact Or.inr rfl) (se_add hK (se_w 0) (se_lst (sa_cons (se_call D.d7 (takes_of rfl rfl rfl rfl) (hr.mono (Nat.le_succ _)) rfl (sa_cons (se_tup (sa_cons se_int (sa_cons se_int (sa_cons se_int sa_nil rfl) rfl) rfl)) (sa_cons se_int (sa_cons se_int sa_nil rfl) rfl) rfl) (by decide) rfl rfl rfl) (sa_cons (se_call D.d9 (takes_of rfl rfl rfl rfl) (hr.mono (Nat.le_succ _)) rfl (sa_cons (se_tup (sa_cons se_int (sa_cons se_int sa_nil rfl) rfl)) (sa_cons (se_tup (sa_cons se_int (sa_cons se_int sa_nil rfl) rfl)) sa_nil rfl) rfl) (by decide) rfl rfl rfl) (sa_cons (se_call D.d16 (takes_of rfl rfl rfl rfl) (hr.mono (Nat.le_succ _)) rfl (sa_cons (se_tup (sa_cons (se_tup (sa_cons se_int (sa_cons se_int sa_nil rfl) rfl)) (sa_cons (se_tup (sa_cons se_int (sa_cons se_int sa_nil rfl) rfl)) sa_nil rfl) rfl)) sa_nil rfl) (by decide) rfl rfl rfl) sa_nil rfl) rfl) rfl))) rfl (by first | exact Or.inl rfl | exact Or.inr rfl))
      (ss_cons (ss_ret (se_call D.d13 (takes_of rfl rfl rfl rfl) (hr.mono (Nat.le_succ _)) rfl (sa_cons (se_w 0) (sa_cons (se_lst (sa_cons (se_tup (sa_cons (se_tup (sa_cons se_int (sa_cons se_int sa_nil rfl) rfl)) (sa_cons se_int sa_nil rfl) rfl)) (sa_cons (se_tup (sa_cons se_int sa_nil rfl)) (sa_cons se_bl (sa_cons (se_tup (sa_cons se_int (sa_cons se_int (sa_cons se_int sa_nil rfl) rfl) rfl)) (sa_cons (se_tup (sa_cons se_int (sa_cons se_int sa_nil rfl) rfl)) (sa_cons se_int (sa_cons (se_lst (sa_cons se_str sa_nil rfl)) sa_nil rfl) rfl) rfl) rfl) rfl) rfl) rfl)) sa_nil rfl) rfl) (by decide) rfl rfl rfl))
      ss_nil))))
theorem ok_law (F : Fun K "law" "law" s_law f fd) (hK : K = G.K) (hP : P = G.prog) (hW : w = G.wo) (hX : GX G NM TX) (D : Ds P w K mg base G cl T d) (m_all : mg "all" = none) (m_len : mg "len" = none) (m_range : mg "range" = none) : FnE P w K mg base (2 * d + 3 + 1) f fd ["script"] G cl (runB 3 (F_law T)) :=
  ok_E F sc_law fun cdv A outer s H E hr => by
    have hu := hr.units
    exact (ss_cons (ss_if (st_not (st_tru hK (se_call0 D.d18 (takes_of rfl rfl rfl rfl) (hr.mono (Nat.le_succ _)) rfl (by decide)) (by intro _; rfl))) (ss_cons (ss_ret se_bl)
      ss_nil) ss_nil)
      (ss_cons (ss_set (i := 1) sc_law.nd rfl (by first | exact Or.inl rfl | exact Or.inr rfl) (se_call D.d12 (takes_of rfl rfl rfl rfl) (hr.mono (Nat.le_succ _)) rfl (sa_cons (se_w 0) (sa_cons se_int sa_nil rfl) rfl) (by decide) rfl rfl rfl) rfl (by first | exact Or.inl rfl | exact Or.inr rfl))
      (ss_cons (ss_ret (se_all hK rfl m_all rfl (sa_cons (se_compL (own := [("k", 2)]) hW rfl sc_law.nd ⟨_, _, rfl, rfl, rfl⟩ (takesH_of (takes_of rfl rfl rfl rfl) rfl) (si_r1 rfl m_range (sa_cons (se_len3 hK ⟨hP, hW⟩ m_len rfl (sa_cons (se_w 1) sa_nil rfl) rfl rfl) sa_nil rfl) rfl) (blkOk_by (own := [("k", 2)]) (show blkC ["script", "cells_so", "k"] (defScope s_law) _ _ = true by decide +kernel)) (fun _ => trivial) (fun Wk1 _ _ _ _ _ tk1 th1 st1 lk1 => (sg_n (pg_name (i := 2) sc_law.nd rfl (by first | exact Or.inl rfl | exact Or.inr rfl)))) (fun Wk1 _ _ _ _ _ tk1 th1 st1 lk1 => sts_nil) (fun Wk1 _ _ _ _ _ tk1 th1 st1 lk1 => (sb_l rfl (se_call D.d17 tk1 (hr.mono (Nat.le_succ _)) rfl (sa_cons (se_call D.d10 tk1 (hr.mono (Nat.le_succ _)) rfl (sa_cons (se_w 1) (sa_cons (se_w 2) sa_nil rfl) rfl) (by decide) rfl rfl rfl) sa_nil rfl) (by decide) rfl rfl rfl))) (by decide) (by decide) (by intro _; rfl)) sa_nil rfl) rfl rfl))
      ss_nil)))
end
end L02
namespace L02
open PySem PySem.Spec PyProof.Rows L2 EV
section
variable {P : Program} {w : World} {K : PySem.W.Frag} {mg : Str → Option Value} {cs ls : List (Addr × Addr)} {Cs : List Addr}
theorem all_ds {base : Heap} (TB : ∀ p ∈ cs ++ ls, GxR.TabB base mg p.1 p.2) {b5 t5 : Addr}
    (A0 : At K mg "frozen" s_frozen ["value"])
    (A1 : At K mg "_holds_list" s__holds_list ["value"])
    (A2 : At K mg "word_power" s_word_power ["word", "many"])
    (A3 : At K mg "root_of" s_root_of ["word"])
    (A4 : At K mg "commute" s_commute ["word", "other"])
    (A5 : AtC K mg "common_root" s_common_root ["words"] b5 t5) (T5 : (b5, t5) ∈ cs) (N5 : t5 ∉ ls.map (·.2))
    (A6 : At K mg "turned" s_turned ["word", "many"])
    (A7 : At K mg "piece_of" s_piece_of ["row", "start", "many"])
    (A8 : At K mg "is_piece" s_is_piece ["row", "start", "word"])
    (A9 : At K mg "first_apart" s_first_apart ["word", "other"])
    (A10 : At K mg "_law_box" s__law_box ["script", "k"])
    (A11 : At K mg "_law_take" s__law_take ["urn", "low_so"])
    (A12 : At K mg "_law_cells" s__law_cells ["script", "top"])
    (A13 : At K mg "_law_same" s__law_same ["got", "goal"])
    (A14 : At K mg "_law_word" s__law_word ["urn", "most", "kinds_so"])
    (A15 : At K mg "_law_root" s__law_root ["word"])
    (A16 : At K mg "_law_common" s__law_common ["words_so"])
    (A17 : At K mg "_law_right" s__law_right ["urn"])
    (A18 : At K mg "_law_by_hand_right" s__law_by_hand_right [])
    (A19 : At K mg "law" s_law ["script"])
    (e_CanNot : ExE K mg (clOf Cs) "CanNot" 0)
    (n_CanNot : ExN K mg (clOf Cs) "CanNot" 0)
    (e_Unfit : ExE K mg (clOf Cs) "Unfit" 1)
    (m_abs : mg "abs" = none)
    (m_all : mg "all" = none)
    (m_bool : mg "bool" = none)
    (m_enumerate : mg "enumerate" = none)
    (m_int : mg "int" = none)
    (m_isinstance : mg "isinstance" = none)
    (m_len : mg "len" = none)
    (m_list : mg "list" = none)
    (m_min : mg "min" = none)
    (m_range : mg "range" = none)
    (m_reversed : mg "reversed" = none)
    (m_str : mg "str" = none)
    (m_tuple : mg "tuple" = none)
    (m_zip : mg "zip" = none) : ∀ d, Ds P w K mg base (gcOf K (assoc []) cs ls P w (nmOf NM) (assoc TX) (assoc [])) (clOf Cs) (callE d) d
  | 0 => {
      d0 := A0.dfe fun f fd F => no_ok,
      d1 := A1.dfe fun f fd F => no_ok,
      d2 := A2.dfe fun f fd F => no_ok,
      d3 := A3.dfe fun f fd F => no_ok,
      d4 := A4.dfe fun f fd F => no_ok,
      d5 := A5.dfe fun f fd F => no_ok,
      d6 := A6.dfe fun f fd F => no_ok,
      d7 := A7.dfe fun f fd F => no_ok,
      d8 := A8.dfe fun f fd F => no_ok,
      d9 := A9.dfe fun f fd F => no_ok,
      d10 := A10.dfe fun f fd F => no_ok,
      d11 := A11.dfe fun f fd F => no_ok,
      d12 := A12.dfe fun f fd F => no_ok,
      d13 := A13.dfe fun f fd F => no_ok,
      d14 := A14.dfe fun f fd F => no_ok,
      d15 := A15.dfe fun f fd F => no_ok,
      d16 := A16.dfe fun f fd F => no_ok,
      d17 := A17.dfe fun f fd F => no_ok,
      d18 := A18.dfe fun f fd F => no_ok,
      d19 := A19.dfe fun f fd F => no_ok,
      e_CanNot := e_CanNot,
      n_CanNot := n_CanNot,
      e_Unfit := e_Unfit }
  | d + 1 =>
    have D := all_ds TB A0 A1 A2 A3 A4 A5 T5 N5 A6 A7 A8 A9 A10 A11 A12 A13 A14 A15 A16 A17 A18 A19 e_CanNot n_CanNot e_Unfit m_abs m_all m_bool m_enumerate m_int m_isinstance m_len m_list m_min m_range m_reversed m_str m_tuple m_zip d
    {
      d0 := A0.dfe fun f fd F => ok_frozen (T := callE d) (d := d) F rfl rfl rfl ⟨rfl, rfl⟩ D m_isinstance m_len m_list m_reversed m_tuple,
      d1 := A1.dfe fun f fd F => ok__holds_list (T := callE d) (d := d) F rfl rfl rfl ⟨rfl, rfl⟩ D m_isinstance m_list m_tuple,
      d2 := A2.dfe fun f fd F => ok_word_power (T := callE d) (d := d) F rfl rfl rfl ⟨rfl, rfl⟩ D,
      d3 := A3.dfe fun f fd F => ok_root_of (T := callE d) (d := d) F rfl rfl rfl ⟨rfl, rfl⟩ D m_len,
      d4 := A4.dfe fun f fd F => ok_commute (T := callE d) (d := d) F rfl rfl rfl ⟨rfl, rfl⟩ D,
      d5 := A5.dfe fun f fd F => ok_common_root (T := callE d) (d := d) F (TB _ (List.mem_append_left _ T5)) (List.mem_map.mpr ⟨_, T5, rfl⟩) N5 rfl rfl rfl ⟨rfl, rfl⟩ D m_all,
      d6 := A6.dfe fun f fd F => ok_turned (T := callE d) (d := d) F rfl rfl rfl ⟨rfl, rfl⟩ D m_len,
      d7 := A7.dfe fun f fd F => ok_piece_of (T := callE d) (d := d) F rfl rfl rfl ⟨rfl, rfl⟩ D m_len,
      d8 := A8.dfe fun f fd F => ok_is_piece (T := callE d) (d := d) F rfl rfl rfl ⟨rfl, rfl⟩ D m_len,
      d9 := A9.dfe fun f fd F => ok_first_apart (T := callE d) (d := d) F rfl rfl rfl ⟨rfl, rfl⟩ D m_enumerate m_zip,
      d10 := A10.dfe fun f fd F => ok__law_box (T := callE d) (d := d) F rfl rfl rfl ⟨rfl, rfl⟩ D m_abs m_int m_len,
      d11 := A11.dfe fun f fd F => ok__law_take (T := callE d) (d := d) F rfl rfl rfl ⟨rfl, rfl⟩ D m_int,
      d12 := A12.dfe fun f fd F => ok__law_cells (T := callE d) (d := d) F rfl rfl rfl ⟨rfl, rfl⟩ D m_enumerate m_int m_list,
      d13 := A13.dfe fun f fd F => ok__law_same (T := callE d) (d := d) F rfl rfl rfl ⟨rfl, rfl⟩ D m_all m_bool m_int m_isinstance m_len m_list m_str m_tuple m_zip,
      d14 := A14.dfe fun f fd F => ok__law_word (T := callE d) (d := d) F rfl rfl rfl ⟨rfl, rfl⟩ D m_range m_tuple,
      d15 := A15.dfe fun f fd F => ok__law_root (T := callE d) (d := d) F rfl rfl rfl ⟨rfl, rfl⟩ D m_all m_len m_range,
      d16 := A16.dfe fun f fd F => ok__law_common (T := callE d) (d := d) F rfl rfl rfl ⟨rfl, rfl⟩ D,
      d17 := A17.dfe fun f fd F => ok__law_right (T := callE d) (d := d) F rfl rfl rfl ⟨rfl, rfl⟩ D m_all m_len m_min m_range m_tuple,
      d18 := A18.dfe fun f fd F => ok__law_by_hand_right (T := callE d) (d := d) F rfl rfl rfl ⟨rfl, rfl⟩ D,
      d19 := A19.dfe fun f fd F => ok_law (T := callE d) (d := d) F rfl rfl rfl ⟨rfl, rfl⟩ D m_all m_len m_range,
      e_CanNot := e_CanNot,
      n_CanNot := n_CanNot,
      e_Unfit := e_Unfit }
theorem law_at {fa : Addr} (hfa : mg "law" = some (.ref fa)) {b5 t5 : Addr}
    (A0 : At K mg "frozen" s_frozen ["value"])
    (A1 : At K mg "_holds_list" s__holds_list ["value"])
    (A2 : At K mg "word_power" s_word_power ["word", "many"])
    (A3 : At K mg "root_of" s_root_of ["word"])
    (A4 : At K mg "commute" s_commute ["word", "other"])
    (A5 : AtC K mg "common_root" s_common_root ["words"] b5 t5) (T5 : (b5, t5) ∈ cs) (N5 : t5 ∉ ls.map (·.2))
    (A6 : At K mg "turned" s_turned ["word", "many"])
    (A7 : At K mg "piece_of" s_piece_of ["row", "start", "many"])
    (A8 : At K mg "is_piece" s_is_piece ["row", "start", "word"])
    (A9 : At K mg "first_apart" s_first_apart ["word", "other"])
    (A10 : At K mg "_law_box" s__law_box ["script", "k"])
    (A11 : At K mg "_law_take" s__law_take ["urn", "low_so"])
    (A12 : At K mg "_law_cells" s__law_cells ["script", "top"])
    (A13 : At K mg "_law_same" s__law_same ["got", "goal"])
    (A14 : At K mg "_law_word" s__law_word ["urn", "most", "kinds_so"])
    (A15 : At K mg "_law_root" s__law_root ["word"])
    (A16 : At K mg "_law_common" s__law_common ["words_so"])
    (A17 : At K mg "_law_right" s__law_right ["urn"])
    (A18 : At K mg "_law_by_hand_right" s__law_by_hand_right [])
    (A19 : At K mg "law" s_law ["script"])
    (e_CanNot : ExE K mg (clOf Cs) "CanNot" 0)
    (n_CanNot : ExN K mg (clOf Cs) "CanNot" 0)
    (e_Unfit : ExE K mg (clOf Cs) "Unfit" 1)
    (m_abs : mg "abs" = none)
    (m_all : mg "all" = none)
    (m_bool : mg "bool" = none)
    (m_enumerate : mg "enumerate" = none)
    (m_int : mg "int" = none)
    (m_isinstance : mg "isinstance" = none)
    (m_len : mg "len" = none)
    (m_list : mg "list" = none)
    (m_min : mg "min" = none)
    (m_range : mg "range" = none)
    (m_reversed : mg "reversed" = none)
    (m_str : mg "str" = none)
    (m_tuple : mg "tuple" = none)
    (m_zip : mg "zip" = none) : LawE P w K mg "script" (assoc []) cs ls (nmOf NM) (assoc TX) (assoc []) (clOf Cs) (runB 3 (F_law (callE 113))) fa :=
  A19.law hfa fun base kb nb TB f fd F => ok_law (T := callE 113) (d := 113) F rfl rfl rfl ⟨rfl, rfl⟩ (all_ds TB A0 A1 A2 A3 A4 A5 T5 N5 A6 A7 A8 A9 A10 A11 A12 A13 A14 A15 A16 A17 A18 A19 e_CanNot n_CanNot e_Unfit m_abs m_all m_bool m_enumerate m_int m_isinstance m_len m_list m_min m_range m_reversed m_str m_tuple m_zip 113) m_all m_len m_range
end
structure CF (P : Program) (w : World) (K : PySem.W.Frag) (mg : Str → Option Value) (Cs : List Addr) : Prop where
  at_ : AtCs K ["CanNot", "Unfit"] Cs
  e_CanNot : ExE K mg (clOf Cs) "CanNot" 0
  n_CanNot : ExN K mg (clOf Cs) "CanNot" 0
  e_Unfit : ExE K mg (clOf Cs) "Unfit" 1
end L02
open PySem PySem.W PyProof.Rows
set_option maxHeartbeats 0
theorem L02.zfill : L02.hd.heap_39 = L02.hd.heap_39 ∧ PySem.Challenge.rw_unwound_k02_whole_words_and_their_roots = PySem.Challenge.rw_unwound_k02_whole_words_and_their_roots := by
  k_fill
  exact ⟨rfl, rfl⟩
theorem L02.zA0 {w : World} {mg : Str → Option Value} {h : Heap} (KX : (L02.hd.heap_39 w.params).In h) (N : h.Ns mainGlobals mg) : EV.At (L02.hd.heap_39 w.params) mg "frozen" L02.s_frozen ["value"] := EV.at_mk KX N (by k_is) (by k_is) (by k_is) (by k_is) (fun _ _ _ _ _ _ us hl => match us, hl with | [_], _ => rfl)
theorem L02.zA1 {w : World} {mg : Str → Option Value} {h : Heap} (KX : (L02.hd.heap_39 w.params).In h) (N : h.Ns mainGlobals mg) : EV.At (L02.hd.heap_39 w.params) mg "_holds_list" L02.s__holds_list ["value"] := EV.at_mk KX N (by k_is) (by k_is) (by k_is) (by k_is) (fun _ _ _ _ _ _ us hl => match us, hl with | [_], _ => rfl)
theorem L02.zA2 {w : World} {mg : Str → Option Value} {h : Heap} (KX : (L02.hd.heap_39 w.params).In h) (N : h.Ns mainGlobals mg) : EV.At (L02.hd.heap_39 w.params) mg "word_power" L02.s_word_power ["word", "many"] := EV.at_mk KX N (by k_is) (by k_is) (by k_is) (by k_is) (fun _ _ _ _ _ _ us hl => match us, hl with | [_, _], _ => rfl)
theorem L02.zA3 {w : World} {mg : Str → Option Value} {h : Heap} (KX : (L02.hd.heap_39 w.params).In h) (N : h.Ns mainGlobals mg) : EV.At (L02.hd.heap_39 w.params) mg "root_of" L02.s_root_of ["word"] := EV.at_mk KX N (by k_is) (by k_is) (by k_is) (by k_is) (fun _ _ _ _ _ _ us hl => match us, hl with | [_], _ => rfl)
theorem L02.zA4 {w : World} {mg : Str → Option Value} {h : Heap} (KX : (L02.hd.heap_39 w.params).In h) (N : h.Ns mainGlobals mg) : EV.At (L02.hd.heap_39 w.params) mg "commute" L02.s_commute ["word", "other"] := EV.at_mk KX N (by k_is) (by k_is) (by k_is) (by k_is) (fun _ _ _ _ _ _ us hl => match us, hl with | [_, _], _ => rfl)
theorem L02.zA6 {w : World} {mg : Str → Option Value} {h : Heap} (KX : (L02.hd.heap_39 w.params).In h) (N : h.Ns mainGlobals mg) : EV.At (L02.hd.heap_39 w.params) mg "turned" L02.s_turned ["word", "many"] := EV.at_mk KX N (by k_is) (by k_is) (by k_is) (by k_is) (fun _ _ _ _ _ _ us hl => match us, hl with | [_, _], _ => rfl)
theorem L02.zA7 {w : World} {mg : Str → Option Value} {h : Heap} (KX : (L02.hd.heap_39 w.params).In h) (N : h.Ns mainGlobals mg) : EV.At (L02.hd.heap_39 w.params) mg "piece_of" L02.s_piece_of ["row", "start", "many"] := EV.at_mk KX N (by k_is) (by k_is) (by k_is) (by k_is) (fun _ _ _ _ _ _ us hl => match us, hl with | [_, _, _], _ => rfl)
theorem L02.zA8 {w : World} {mg : Str → Option Value} {h : Heap} (KX : (L02.hd.heap_39 w.params).In h) (N : h.Ns mainGlobals mg) : EV.At (L02.hd.heap_39 w.params) mg "is_piece" L02.s_is_piece ["row", "start", "word"] := EV.at_mk KX N (by k_is) (by k_is) (by k_is) (by k_is) (fun _ _ _ _ _ _ us hl => match us, hl with | [_, _, _], _ => rfl)
theorem L02.zA9 {w : World} {mg : Str → Option Value} {h : Heap} (KX : (L02.hd.heap_39 w.params).In h) (N : h.Ns mainGlobals mg) : EV.At (L02.hd.heap_39 w.params) mg "first_apart" L02.s_first_apart ["word", "other"] := EV.at_mk KX N (by k_is) (by k_is) (by k_is) (by k_is) (fun _ _ _ _ _ _ us hl => match us, hl with | [_, _], _ => rfl)
theorem L02.zA10 {w : World} {mg : Str → Option Value} {h : Heap} (KX : (L02.hd.heap_39 w.params).In h) (N : h.Ns mainGlobals mg) : EV.At (L02.hd.heap_39 w.params) mg "_law_box" L02.s__law_box ["script", "k"] := EV.at_mk KX N (by k_is) (by k_is) (by k_is) (by k_is) (fun _ _ _ _ _ _ us hl => match us, hl with | [_, _], _ => rfl)
theorem L02.zA11 {w : World} {mg : Str → Option Value} {h : Heap} (KX : (L02.hd.heap_39 w.params).In h) (N : h.Ns mainGlobals mg) : EV.At (L02.hd.heap_39 w.params) mg "_law_take" L02.s__law_take ["urn", "low_so"] := EV.at_mk KX N (by k_is) (by k_is) (by k_is) (by k_is) (fun _ _ _ _ _ _ us hl => match us, hl with | [_, _], _ => rfl)
theorem L02.zA12 {w : World} {mg : Str → Option Value} {h : Heap} (KX : (L02.hd.heap_39 w.params).In h) (N : h.Ns mainGlobals mg) : EV.At (L02.hd.heap_39 w.params) mg "_law_cells" L02.s__law_cells ["script", "top"] := EV.at_mk KX N (by k_is) (by k_is) (by k_is) (by k_is) (fun _ _ _ _ _ _ us hl => match us, hl with | [_, _], _ => rfl)
theorem L02.zA13 {w : World} {mg : Str → Option Value} {h : Heap} (KX : (L02.hd.heap_39 w.params).In h) (N : h.Ns mainGlobals mg) : EV.At (L02.hd.heap_39 w.params) mg "_law_same" L02.s__law_same ["got", "goal"] := EV.at_mk KX N (by k_is) (by k_is) (by k_is) (by k_is) (fun _ _ _ _ _ _ us hl => match us, hl with | [_, _], _ => rfl)
theorem L02.zA14 {w : World} {mg : Str → Option Value} {h : Heap} (KX : (L02.hd.heap_39 w.params).In h) (N : h.Ns mainGlobals mg) : EV.At (L02.hd.heap_39 w.params) mg "_law_word" L02.s__law_word ["urn", "most", "kinds_so"] := EV.at_mk KX N (by k_is) (by k_is) (by k_is) (by k_is) (fun _ _ _ _ _ _ us hl => match us, hl with | [_, _, _], _ => rfl)
theorem L02.zA15 {w : World} {mg : Str → Option Value} {h : Heap} (KX : (L02.hd.heap_39 w.params).In h) (N : h.Ns mainGlobals mg) : EV.At (L02.hd.heap_39 w.params) mg "_law_root" L02.s__law_root ["word"] := EV.at_mk KX N (by k_is) (by k_is) (by k_is) (by k_is) (fun _ _ _ _ _ _ us hl => match us, hl with | [_], _ => rfl)
theorem L02.zA16 {w : World} {mg : Str → Option Value} {h : Heap} (KX : (L02.hd.heap_39 w.params).In h) (N : h.Ns mainGlobals mg) : EV.At (L02.hd.heap_39 w.params) mg "_law_common" L02.s__law_common ["words_so"] := EV.at_mk KX N (by k_is) (by k_is) (by k_is) (by k_is) (fun _ _ _ _ _ _ us hl => match us, hl with | [_], _ => rfl)
theorem L02.zA17 {w : World} {mg : Str → Option Value} {h : Heap} (KX : (L02.hd.heap_39 w.params).In h) (N : h.Ns mainGlobals mg) : EV.At (L02.hd.heap_39 w.params) mg "_law_right" L02.s__law_right ["urn"] := EV.at_mk KX N (by k_is) (by k_is) (by k_is) (by k_is) (fun _ _ _ _ _ _ us hl => match us, hl with | [_], _ => rfl)
theorem L02.zA18 {w : World} {mg : Str → Option Value} {h : Heap} (KX : (L02.hd.heap_39 w.params).In h) (N : h.Ns mainGlobals mg) : EV.At (L02.hd.heap_39 w.params) mg "_law_by_hand_right" L02.s__law_by_hand_right [] := EV.at_mk KX N (by k_is) (by k_is) (by k_is) (by k_is) (fun _ _ _ _ _ _ us hl => match us, hl with | [], _ => rfl)
theorem L02.zA19 {w : World} {mg : Str → Option Value} {h : Heap} (KX : (L02.hd.heap_39 w.params).In h) (N : h.Ns mainGlobals mg) : EV.At (L02.hd.heap_39 w.params) mg "law" L02.s_law ["script"] := EV.at_mk KX N (by k_is) (by k_is) (by k_is) (by k_is) (fun _ _ _ _ _ _ us hl => match us, hl with | [_], _ => rfl)
set_option maxHeartbeats 4000000
namespace EV
open PySem PySem.Spec PyProof.Rows L2
def pairH (o : Ob) (a : List W) (x y : Int) (sl : List W) : Hpe := ⟨4, .nd (some o) (.nd (some (.lst a)) (.nd (some (.lst sl)) .lf .lf) .lf) (.nd (some (.lst [.int x, .int y])) .lf .lf), []⟩
def rhoP (u3 u4 u5 : Option W) : Rho := [some (.ref 0), some (.int 2), some (.ref 2), u3, u4, u5]
section
variable (o : Ob) (a : List W) (x y v i : Int) (sl : List W) (u3 u4 u5 : Option W) (w : W)
theorem pair_t : gTL 2 (gsC (gN 3) (gsC (gN 4) gsN)) (.tup [.int i, .int v]) (rhoP u3 u4 u5) (pairH o a x y sl) = .nx (rhoP (some (.int i)) (some (.int v)) u5) (pairH o a x y sl) := by kernel_rfl
theorem pair_m : e2 gMd (eBl bInt (aC (eV 3) aN)) (eV 1) (rhoP (some (.int i)) (some (.int v)) u5) (pairH o a x y sl) = gMd (.int i) (.int 2) (pairH o a x y sl) := by kernel_rfl
theorem pair_s : (rhoP (some (.int i)) (some (.int v)) u5).set 5 (some w) = rhoP (some (.int i)) (some (.int v)) (some w) := by kernel_rfl
theorem pair_x0 : e2 gIx2 (eV 2) (eV 5) (rhoP u3 u4 (some (.int 0))) (pairH o a x y sl) = .ok (.int x) (pairH o a x y sl) := by kernel_rfl
theorem pair_x1 : e2 gIx2 (eV 2) (eV 5) (rhoP u3 u4 (some (.int 1))) (pairH o a x y sl) = .ok (.int y) (pairH o a x y sl) := by kernel_rfl
theorem pair_y : e2 gMul (eV 4) (e2 gAdd (eV 3) (eK (.int 2))) (rhoP (some (.int i)) (some (.int v)) u5) (pairH o a x y sl) = gMul (.int v) (.int (i + 2)) (pairH o a x y sl) := by kernel_rfl
theorem pair_g : (pairH o a x y sl).get 2 = some (.lst [.int x, .int y]) := by kernel_rfl
theorem pair_p0 (z : Int) : (pairH o a x y sl).set 2 (.lst ([W.int x, W.int y].set 0 (.int z))) = pairH o a z y sl := by kernel_rfl
theorem pair_p1 (z : Int) : (pairH o a x y sl).set 2 (.lst ([W.int x, W.int y].set 1 (.int z))) = pairH o a x z sl := by kernel_rfl
theorem pair_2 : eV 2 (rhoP u3 u4 u5) (pairH o a x y sl) = .ok (.ref 2) (pairH o a x y sl) := by kernel_rfl
theorem pair_5 : eV 5 (rhoP u3 u4 (some (.int i))) (pairH o a x y sl) = .ok (.int i) (pairH o a x y sl) := by kernel_rfl
theorem pair_r : rdS (.ref 3) (pairH o a x y sl) = some sl := by kernel_rfl
end
theorem pair_b (o : Ob) (a : List W) (x y v i : Int) (sl : List W) (u5 : Option W) (i0 : 0 ≤ i) (i1 : i < 1000) : ∃ (x' y' : Int) (v5 : Option W), cellsB (rhoP (some (.int i)) (some (.int v)) u5) (pairH o a x y sl) = .nx (rhoP (some (.int i)) (some (.int v)) v5) (pairH o a x' y' sl) := by
  have m2 : gMul (.int v) (.int (i + 2)) (pairH o a x y sl) = .ok (.int (v * (i + 2))) (pairH o a x y sl) := mul_R (by omega) (by omega)
  have b1 : ∀ j : Int, i % 2 = j → sAs (e2 gMd (eBl bInt (aC (eV 3) aN)) (eV 1)) (gN 5) (rhoP (some (.int i)) (some (.int v)) u5) (pairH o a x y sl) = .nx (rhoP (some (.int i)) (some (.int v)) (some (.int j))) (pairH o a x y sl) := fun j ej => by
    have m : gMd (.int i) (.int 2) (pairH o a x y sl) = .ok (.int j) (pairH o a x y sl) := by rw [md_ok (by decide), ej]
    rw [sas_n ((pair_m o a x y v i sl u5).trans m), pair_s]
  have h01 : i % 2 = 0 ∨ i % 2 = 1 := by omega
  rcases h01 with hj | hj
  · have e : e2 gAdd (e2 gIx2 (eV 2) (eV 5)) (e2 gMul (eV 4) (e2 gAdd (eV 3) (eK (.int 2)))) (rhoP (some (.int i)) (some (.int v)) (some (.int 0))) (pairH o a x y sl) = .ok (.int (x + v * (i + 2))) (pairH o a x y sl) := (e2_ok (pair_x0 o a x y sl _ _) ((pair_y o a x y v i sl _).trans m2)).trans (by kernel_rfl)
    refine ⟨x + v * (i + 2), y, some (.int 0), (seq_nx (b1 0 hj)).trans ?_⟩
    rw [seq_nx (sas_sb (l := 0) e (pair_2 o a x y sl _ _ _) (pair_5 o a x y 0 sl _ _) (pair_g o a x y sl) (by kernel_rfl)), pair_p0]
    rfl
  · have e : e2 gAdd (e2 gIx2 (eV 2) (eV 5)) (e2 gMul (eV 4) (e2 gAdd (eV 3) (eK (.int 2)))) (rhoP (some (.int i)) (some (.int v)) (some (.int 1))) (pairH o a x y sl) = .ok (.int (y + v * (i + 2))) (pairH o a x y sl) := (e2_ok (pair_x1 o a x y sl _ _) ((pair_y o a x y v i sl _).trans m2)).trans (by kernel_rfl)
    refine ⟨x, y + v * (i + 2), some (.int 1), (seq_nx (b1 1 hj)).trans ?_⟩
    rw [seq_nx (sas_sb (l := 1) e (pair_2 o a x y sl _ _ _) (pair_5 o a x y 1 sl _ _) (pair_g o a x y sl) (by kernel_rfl)), pair_p1]
    rfl
theorem pair_turns (o : Ob) (a : List W) (xs : List Int) : ∀ (k i : Nat) (x y : Int) (u3 u4 u5 : Option W), xs.length < 100 → i ≤ xs.length → xs.length - i < k → ∃ (x' y' : Int) (v3 v4 v5 : Option W),
    forE (srcE (.ref 3)) (gTL 2 (gsC (gN 3) (gsC (gN 4) gsN))) cellsB k i (rhoP u3 u4 u5) (pairH o a x y (xs.map W.int)) = .nx (rhoP v3 v4 v5) (pairH o a x' y' (xs.map W.int))
  | 0, i, x, y, u3, u4, u5, _, _, h => by omega
  | k + 1, i, x, y, u3, u4, u5, hl, hi, h => by
    by_cases c : i < xs.length
    · obtain ⟨v, ey⟩ : ∃ v, xs[i]? = some v := ⟨_, List.getElem?_eq_getElem c⟩
      have e1 : srcE (.ref 3) (pairH o a x y (xs.map W.int)) i = some (some (.tup [.int (i : Nat), .int v])) := by
        unfold srcE
        rw [pair_r]
        dsimp only
        rw [List.getElem?_map, ey]
        rfl
      obtain ⟨x1, y1, w5, eb⟩ := pair_b o a x y v i (xs.map W.int) u5 (by omega) (by omega)
      obtain ⟨x2, y2, v3, v4, v5, ih⟩ := pair_turns o a xs k (i + 1) x1 y1 (some (.int i)) (some (.int v)) w5 hl c (by omega)
      exact ⟨x2, y2, v3, v4, v5, (forE_nx e1 (pair_t o a x y v i _ u3 u4 u5) eb).trans ih⟩
    · have e1 : srcE (.ref 3) (pairH o a x y (xs.map W.int)) i = some none := by
        unfold srcE
        rw [pair_r]
        dsimp only
        rw [List.getElem?_map, List.getElem?_eq_none (by omega)]
        rfl
      exact ⟨x, y, u3, u4, u5, forE_end e1⟩
theorem cut_two (v w : W) (ws : List W) : cutW (v :: w :: ws) none (some 2) = [v, w] := by
  unfold cutW
  have e : HT.sIx (v :: w :: ws).length (v :: w :: ws).length (some 2) = 2 := by
    have z := HT.sIx_nat (v :: w :: ws).length (v :: w :: ws).length 2
    rw [show ((2 : Nat) : Int) = 2 from rfl] at z
    rw [z, List.length_cons, List.length_cons]
    omega
  rw [e, HT.sIx_none]
  rfl
def rho2 : Rho := [some (.ref 0), some (.int 2), none, none, none, none]
theorem cells2_ok (ns : List Int) (hl : ns.length ≤ 63) (o : Ob) (ho : o = .lst (ns.map W.int) ∨ o = .fz (ns.map W.int)) : ∃ (c : Nat) (zs : List Int) (h' : Hpe), (zs.length = 1 ∨ zs.length = 2) ∧ runB 6 uCells [.ref 0, .int 2] (Hpe.nil.new o) = .ok (.ref c) h' ∧ h'.get c = some (.lst (zs.map W.int)) ∧ c < h'.nx ∧ h'.nx < 10 ∧ h'.lk = [] := by
  have rd0 : ∀ (n : Nat) (l r : Tr), rdL ⟨n, .nd (some o) l r, []⟩ 0 = some (ns.map W.int) := fun n l r => by
    rcases ho with rfl | rfl <;> kernel_rfl
  have v0 : ∀ (ρ : Rho) (h : Hpe), eV 0 (some (.ref 0) :: ρ) h = .ok (.ref 0) h := fun _ _ => rfl
  match ns with
  | [] =>
    refine ⟨3, [0], ⟨5, .nd (some o) (.nd (some (.lst [])) (.nd (some (.lst [.int 0])) .lf .lf) .lf) (.nd (some (.lst [])) (.nd (some (.lst [])) .lf .lf) .lf), []⟩, .inl rfl, ?_, by kernel_rfl, by show 3 < 5; omega, by show 5 < 10; omega, rfl⟩
    rcases ho with rfl | rfl <;> kernel_rfl
  | [x] =>
    refine ⟨2, [x], ⟨4, .nd (some o) (.nd (some (.lst [.int x])) (.nd (some (.lst [])) .lf .lf) .lf) (.nd (some (.lst [.int x])) .lf .lf), []⟩, .inl rfl, ?_, by kernel_rfl, by show 2 < 4; omega, by show 4 < 10; omega, rfl⟩
    rcases ho with rfl | rfl <;> kernel_rfl
  | x :: y :: r =>
    obtain ⟨xs, ex, lx⟩ := cut_map (x :: y :: r) (some 2) (some 63)
    have s1 : eSl (eV 0) oN (oS (eV 1)) rho2 (Hpe.nil.new o) = .ok (.ref 1) ⟨2, .nd (some o) (.nd (some (.lst [.int x, .int y])) .lf .lf) .lf, []⟩ := by
      refine (sl_ok (ws := (x :: y :: r).map W.int) (lo := none) (hi := some 2) (h1 := Hpe.nil.new o) (h2 := Hpe.nil.new o) (h3 := Hpe.nil.new o) (v0 _ _) rfl (by kernel_rfl) (rd0 1 .lf .lf)).trans ?_
      rw [List.map_cons, List.map_cons, cut_two]
      kernel_rfl
    have s2 : eBl bLst3 (aC (eSl (eV 0) oN (oS (eV 1))) aN) rho2 (Hpe.nil.new o) = .ok (.ref 2) ⟨3, .nd (some o) (.nd (some (.lst [.int x, .int y])) .lf .lf) (.nd (some (.lst [.int x, .int y])) .lf .lf), []⟩ := (bl_1 s1).trans (by kernel_rfl)
    have s3 : eOrT (eBl bLst3 (aC (eSl (eV 0) oN (oS (eV 1))) aN)) (eLst (aC (eK (.int 0)) aN)) rho2 (Hpe.nil.new o) = .ok (.ref 2) ⟨3, .nd (some o) (.nd (some (.lst [.int x, .int y])) .lf .lf) (.nd (some (.lst [.int x, .int y])) .lf .lf), []⟩ := (orT_of s2).trans (by kernel_rfl)
    have s4 : sAs (eOrT (eBl bLst3 (aC (eSl (eV 0) oN (oS (eV 1))) aN)) (eLst (aC (eK (.int 0)) aN))) (gN 2) rho2 (Hpe.nil.new o) = .nx (rhoP none none none) ⟨3, .nd (some o) (.nd (some (.lst [.int x, .int y])) .lf .lf) (.nd (some (.lst [.int x, .int y])) .lf .lf), []⟩ := (sas_n s3).trans (by kernel_rfl)
    have s5 : eSl (eV 0) (oS (eV 1)) (oS (eK (.int 63))) (rhoP none none none) ⟨3, .nd (some o) (.nd (some (.lst [.int x, .int y])) .lf .lf) (.nd (some (.lst [.int x, .int y])) .lf .lf), []⟩ = .ok (.ref 3) (pairH o [.int x, .int y] x y (xs.map W.int)) := by
      refine (sl_ok (ws := (x :: y :: r).map W.int) (lo := some 2) (hi := some 63) (h1 := ⟨3, .nd (some o) (.nd (some (.lst [.int x, .int y])) .lf .lf) (.nd (some (.lst [.int x, .int y])) .lf .lf), []⟩) (h2 := ⟨3, .nd (some o) (.nd (some (.lst [.int x, .int y])) .lf .lf) (.nd (some (.lst [.int x, .int y])) .lf .lf), []⟩) (h3 := ⟨3, .nd (some o) (.nd (some (.lst [.int x, .int y])) .lf .lf) (.nd (some (.lst [.int x, .int y])) .lf .lf), []⟩) (by kernel_rfl) (by kernel_rfl) (by kernel_rfl) (rd0 3 _ _)).trans ?_
      rw [ex]
      kernel_rfl
    have s6 : cellsI (rhoP none none none) ⟨3, .nd (some o) (.nd (some (.lst [.int x, .int y])) .lf .lf) (.nd (some (.lst [.int x, .int y])) .lf .lf), []⟩ = .ok (srcE (.ref 3)) (pairH o [.int x, .int y] x y (xs.map W.int)) := cellsI_ok s5 (by kernel_rfl : rdL (pairH o [.int x, .int y] x y (xs.map W.int)) 3 = some (xs.map W.int))
    obtain ⟨x', y', v3, v4, v5, s7⟩ := pair_turns o [.int x, .int y] xs 1000000 0 x y none none none (by omega) (by omega) (by omega)
    have s8 := (sfor_ok (g := gTL 2 (gsC (gN 3) (gsC (gN 4) gsN))) (b := cellsB) s6).trans s7
    refine ⟨2, [x', y'], pairH o [.int x, .int y] x' y' (xs.map W.int), .inr rfl, ?_, pair_g o _ x' y' _, by show 2 < 4; omega, by show 4 < 10; omega, rfl⟩
    refine run_rt (n := 6) (ws := [.ref 0, .int 2]) ?_
    show sSeq (sAs (eOrT (eBl bLst3 (aC (eSl (eV 0) oN (oS (eV 1))) aN)) (eLst (aC (eK (.int 0)) aN))) (gN 2)) (sSeq (sFor cellsI (gTL 2 (gsC (gN 3) (gsC (gN 4) gsN))) cellsB) (sSeq (sRt (eV 2)) sNil)) rho2 (Hpe.nil.new o) = _
    exact (seq_nx s4).trans ((seq_nx s8).trans (seq_rt (srt_ok (pair_2 o _ x' y' _ _ _ _))))
theorem boxK_ok {h : Hpe} {c k : Nat} {c0 z : Int} {zs : List Int} (g : h.get c = some (.lst (zs.map W.int))) (ez : zs[k]? = some z) (hk : k < 1000) (hn : h.nx < 1000000000) (hz : zs.length < 1000) : ∃ a b : Int, runB 3 (uBox c0) [.ref c, .int (k : Nat)] h = .ok (.ref h.nx) (h.new (.lst [.int a, .int b, .int 0])) := by
  have lk : k < zs.length := (List.getElem?_eq_some_iff.mp ez).1
  have ln : bLen3 [.ref c] h = .ok (.int ((zs.length : Nat) : Int)) h := by
    have r : bLen [.ref c] h = .ok (.int ((zs.length : Nat) : Int)) h := by
      show (match rdL h c with | some ws => Res.ok (W.int ws.length) h | none => .no) = _
      rw [rdL_of g]
      dsimp only
      rw [List.length_map]
    unfold bLen3
    dsimp only
    rw [g]
    exact r
  have ix : atI (zs.map W.int) ((k : Nat) : Int) = some (.int z) := by
    unfold atI ixN
    have c1 : ¬ ((k : Int) < 0) := by omega
    simp [lk, c1]
    exact (List.getElem?_eq_some_iff.mp ez).2
  have v0 : ∀ ρ : Rho, eV 0 (some (.ref c) :: ρ) h = .ok (.ref c) h := fun _ => rfl
  have t0 : asB (e2 (gB0 fun i j => decide (i < j)) (eV 1) (eBl bLen3 (aC (eV 0) aN))) [some (.ref c), some (.int (k : Nat)), none] h = .ok true h := by
    have d : decide (((k : Nat) : Int) < ((zs.length : Nat) : Int)) = true := decide_eq_true (by omega)
    have q : e2 (gB0 fun i j => decide (i < j)) (eV 1) (eBl bLen3 (aC (eV 0) aN)) [some (.ref c), some (.int (k : Nat)), none] h = .ok (.bl (decide (((k : Nat) : Int) < ((zs.length : Nat) : Int)))) h := (e2_ok (a := .int (k : Nat)) (h1 := h) rfl ((bl_1 (v0 _)).trans ln)).trans rfl
    rw [d] at q
    exact asB_eq q
  have t1 : e2 gIx2 (eV 0) (eV 1) [some (.ref c), some (.int (k : Nat)), none] h = .ok (.int z) h := (e2_ok (b := .int (k : Nat)) (h2 := h) (v0 _) rfl).trans (ix_lst g ix)
  have t2 := (if_ok (fa := e2 gIx2 (eV 0) (eV 1)) (fb := eK (.int 0)) t0).trans t1
  have al : ∀ a b : Int, h.al (.lst [.int a, .int b, .int 0]) = .ok (.ref h.nx) (h.new (.lst [.int a, .int b, .int 0])) := fun a b => by
    unfold Hpe.al
    rw [show Nat.blt h.nx 1099511627776 = true from Nat.ble_eq_true_of_le (by omega)]
    rfl
  have ab : eBl bAbs (aC (eV 2) aN) [some (.ref c), some (.int (k : Nat)), some (.int z)] h = .ok (.int (if z < 0 then -z else z)) h := rfl
  have ge : ∃ j : Int, 0 ≤ j ∧ j ≤ 1 ∧ eBl bInt (aC (e2 (gB0 fun i j => decide (j ≤ i)) (eBl bAbs (aC (eV 2) aN)) (e2 (gI cPow fun i j => i ^ j.toNat) (eK (.int 10)) (eK (.int 18)))) aN) [some (.ref c), some (.int (k : Nat)), some (.int z)] h = .ok (.int j) h := by
    have p : e2 (gI cPow fun i j => i ^ j.toNat) (eK (.int 10)) (eK (.int 18)) [some (.ref c), some (.int (k : Nat)), some (.int z)] h = .ok (.int 1000000000000000000) h := by kernel_rfl
    have q : e2 (gB0 fun i j => decide (j ≤ i)) (eBl bAbs (aC (eV 2) aN)) (e2 (gI cPow fun i j => i ^ j.toNat) (eK (.int 10)) (eK (.int 18))) [some (.ref c), some (.int (k : Nat)), some (.int z)] h = .ok (.bl (decide (1000000000000000000 ≤ if z < 0 then -z else z))) h := (e2_ok ab p).trans rfl
    cases d : decide (1000000000000000000 ≤ if z < 0 then -z else z) with
    | true => rw [d] at q; exact ⟨1, by omega, by omega, (bl_1 q).trans rfl⟩
    | false => rw [d] at q; exact ⟨0, by omega, by omega, (bl_1 q).trans rfl⟩
  obtain ⟨j, j0, j1, ej⟩ := ge
  have p1 := (e2_ok ab ej).trans (mul_R (i := if z < 0 then -z else z) (h := h) (by omega) (by omega))
  have p2 : e2 gAdd (e2 gAdd (e2 gMd (eBl bInt (aC (eV 2) aN)) (eK (.int 2305843009213693951))) (e2 gMul (eK (.int 39373)) (eV 1))) (eK (.int c0)) [some (.ref c), some (.int (k : Nat)), some (.int z)] h = .ok (.int (z % 2305843009213693951 + 39373 * ((k : Nat) : Int) + c0)) h :=
    (e2_ok (b := .int c0) (h2 := h) ((e2_ok ((e2_ok (a := .int z) (b := .int 2305843009213693951) (h1 := h) (h2 := h) rfl rfl).trans (md_ok (by decide))) ((e2_ok (a := .int 39373) (b := .int (k : Nat)) (h1 := h) (h2 := h) rfl rfl).trans (mul_L (by decide) (by decide)))).trans rfl) rfl).trans rfl
  refine ⟨(if z < 0 then -z else z) * j, z % 2305843009213693951 + 39373 * ((k : Nat) : Int) + c0, ?_⟩
  refine run_rt (n := 3) (ws := [.ref c, .int (k : Nat)]) ?_
  show uBox c0 [some (.ref c), some (.int (k : Nat)), none] h = _
  unfold uBox
  refine (seq_nx (sas_n t2)).trans (seq_rt (srt_ok ?_))
  exact (lst_ok (ac_ok p1 (ac_ok p2 (ac_ok (rfl : eK (.int 0) _ h = .ok (.int 0) h) (rfl : aN _ h = .ok [] h)))) rfl).trans (al _ _)
end EV
namespace EV
open PySem PySem.Spec PyProof.Rows L2
def Res.Wp {α : Type} (r : Res α) (Q : α → Hpe → Prop) (E : Exc → Hpe → Prop) : Prop := match r with
  | .ok a h => Q a h
  | .ex x h => E x h
  | .no => False
structure Po where
  nx : Rho → Hpe → Prop
  rt : W → Hpe → Prop
  bk : Rho → Hpe → Prop
  ct : Rho → Hpe → Prop
  ex : Exc → Rho → Hpe → Prop
def RS.Wp (r : RS) (D : Po) : Prop := match r with
  | .nx ρ h => D.nx ρ h
  | .rt w h => D.rt w h
  | .bk ρ h => D.bk ρ h
  | .ct ρ h => D.ct ρ h
  | .ex x ρ h => D.ex x ρ h
  | .no => False
section
variable {α β : Type} {Q : α → Hpe → Prop} {QW : W → Hpe → Prop} {QB : Bool → Hpe → Prop} {QL : List W → Hpe → Prop} {QO : Option Int → Hpe → Prop} {QS : Src → Hpe → Prop} {E : Exc → Hpe → Prop} {D : Po} {ρ : Rho} {h : Hpe} {f fa fb fc fo fi : FE} {t t1 t2 : FT} {fs : FA} {s s1 s2 : FS} {g : FG} {gs : FGs} {i j n : Nat} {w a b : W} {ws : List W} {g2 : W → W → Hpe → Res W} {gl : List W → Hpe → Res W}
theorem wp_ok {a : α} : (Res.ok a h).Wp Q E = Q a h := rfl
theorem wp_exc {x : Exc} : (Res.ex x h : Res α).Wp Q E = E x h := rfl
theorem wp_no : (Res.no : Res α).Wp Q E = False := rfl
theorem wp_bind {r : Res α} {k : α → Hpe → Res β} {Q : β → Hpe → Prop} : (r.bind k).Wp Q E = r.Wp (fun a h => (k a h).Wp Q E) E := by cases r <;> rfl
theorem wp_bindS {r : Res α} {k : α → Hpe → RS} : (bindS r ρ k).Wp D = r.Wp (fun a h => (k a h).Wp D) (fun x h => D.ex x ρ h) := by cases r <;> rfl
theorem Res.Wp.mono {r : Res α} {Q Q' : α → Hpe → Prop} {E E' : Exc → Hpe → Prop} (e : r.Wp Q E) (q : ∀ a h, Q a h → Q' a h) (x : ∀ a h, E a h → E' a h) : r.Wp Q' E' := by
  cases r with
  | ok a h => exact q a h e
  | ex a h => exact x a h e
  | no => exact e
theorem RS.Wp.mono {r : RS} {D D' : Po} (e : r.Wp D) (a : ∀ ρ h, D.nx ρ h → D'.nx ρ h) (b : ∀ w h, D.rt w h → D'.rt w h) (c : ∀ ρ h, D.bk ρ h → D'.bk ρ h) (d : ∀ ρ h, D.ct ρ h → D'.ct ρ h) (x : ∀ y ρ h, D.ex y ρ h → D'.ex y ρ h) : r.Wp D' := by
  cases r with
  | nx ρ h => exact a _ _ e
  | rt w h => exact b _ _ e
  | bk ρ h => exact c _ _ e
  | ct ρ h => exact d _ _ e
  | ex y ρ h => exact x _ _ _ e
  | no => exact e
theorem wp_cond {c : Bool} {r r' : Res α} : (bif c then r else r').Wp Q E = if c = true then r.Wp Q E else r'.Wp Q E := by cases c <;> rfl
theorem wp_condS {c : Bool} {r r' : RS} : (bif c then r else r').Wp D = if c = true then r.Wp D else r'.Wp D := by cases c <;> rfl
theorem w_nx : (RS.nx ρ h).Wp D = D.nx ρ h := rfl
theorem w_seq : (sSeq s1 s2 ρ h).Wp D = (s1 ρ h).Wp ⟨fun ρ h => (s2 ρ h).Wp D, D.rt, D.bk, D.ct, D.ex⟩ := by
  unfold sSeq
  cases s1 ρ h <;> rfl
theorem w_nil : (sNil ρ h).Wp D = D.nx ρ h := rfl
theorem w_rt : (sRt f ρ h).Wp D = (f ρ h).Wp D.rt (fun x h => D.ex x ρ h) := wp_bindS
theorem w_rtN : (sRtN ρ h).Wp D = D.rt .non h := rfl
theorem w_ex : (sEx f ρ h).Wp D = (f ρ h).Wp (fun _ h => D.nx ρ h) (fun x h => D.ex x ρ h) := wp_bindS
theorem w_as : (sAs f (gN i) ρ h).Wp D = (f ρ h).Wp (fun w h => D.nx (ρ.set i (some w)) h) (fun x h => D.ex x ρ h) := by
  unfold sAs
  rw [wp_bindS]
  simp only [gN, RS.cl, RS.Wp, setR_eq]
theorem w_asG : (sAs f g ρ h).Wp D = (f ρ h).Wp (fun w h => (g w ρ h).cl.Wp D) (fun x h => D.ex x ρ h) := wp_bindS
theorem w_if : (sIf t s1 s2 ρ h).Wp D = (t ρ h).Wp (fun c h => if c = true then (s1 ρ h).Wp D else (s2 ρ h).Wp D) (fun x h => D.ex x ρ h) := by
  unfold sIf
  rw [wp_bindS]
  simp only [wp_condS]
theorem w_par : (sPar i j fs ρ h).Wp D = (fs ρ h).Wp (fun ws h => ws.length = 2 ∧ ∃ w, ws[0]? = some w ∧ ∃ u, ws[1]? = some u ∧ D.nx ((ρ.set i (some w)).set j (some u)) h) (fun x h => D.ex x ρ h) := by
  unfold sPar
  rw [wp_bindS]
  congr 1
  funext ws h1
  match ws with
  | [] => simp [RS.Wp]
  | [_] => simp [RS.Wp]
  | [a, b] => simp [RS.Wp]
  | _ :: _ :: _ :: _ => simp [RS.Wp]
theorem w_rs {k : Nat} : (sRs k ρ h).Wp D = D.ex ⟨k, []⟩ ρ h := rfl
theorem w_au : (sAu i f g2 ρ h).Wp D = ∃ w, ρ[i]? = some (some w) ∧ noClo w = true ∧ (f ρ h).Wp (fun u h1 => (g2 w u h1).Wp (fun z h2 => D.nx (ρ.set i (some z)) h2) (fun x h => D.ex x ρ h)) (fun x h => D.ex x ρ h) := by
  unfold sAu
  rw [nthR_eq]
  match e : ρ[i]? with
  | none => simp [RS.Wp]
  | some none => simp [RS.Wp]
  | some (some w) =>
    simp only [Option.some.injEq, exists_eq_left']
    rw [wp_condS, wp_bindS]
    simp only [wp_bindS, setR_eq, w_nx]
    cases noClo w with
    | true => simp
    | false => simp [RS.Wp]
theorem w_v : (eV i ρ h).Wp QW E = ∃ w, ρ[i]? = some (some w) ∧ noClo w = true ∧ QW w h := by
  unfold eV
  rw [nthR_eq]
  match e : ρ[i]? with
  | none => simp [Res.Wp]
  | some none => simp [Res.Wp]
  | some (some w) =>
    simp only [Option.some.injEq, exists_eq_left']
    rw [wp_cond]
    cases noClo w <;> simp [Res.Wp]
theorem w_k : (eK w ρ h).Wp QW E = QW w h := rfl
theorem w_aN : (aN ρ h).Wp QL E = QL [] h := rfl
theorem w_aC : (aC f fs ρ h).Wp QL E = (f ρ h).Wp (fun w h => (fs ρ h).Wp (fun ws h => QL (w :: ws) h) E) E := by
  unfold aC
  rw [wp_bind]
  simp only [wp_bind, wp_ok]
theorem w_e2 : (e2 g2 fa fb ρ h).Wp QW E = (fa ρ h).Wp (fun a h => (fb ρ h).Wp (fun b h => (g2 a b h).Wp QW E) E) E := by
  unfold e2
  rw [wp_bind]
  simp only [wp_bind]
theorem w_tup : (eTup fs ρ h).Wp QW E = (fs ρ h).Wp (fun ws h => line ws.length = true ∧ QW (.tup ws) h) E := by
  unfold eTup
  rw [wp_bind]
  simp only [wp_cond, wp_ok, wp_no]
  congr 1
  funext ws h
  cases line ws.length <;> simp
theorem w_al {o : Ob} : (h.al o).Wp QW E = (h.nx < 1099511627776 ∧ QW (.ref h.nx) (h.new o)) := by
  unfold Hpe.al
  rw [wp_cond, wp_ok, wp_no]
  by_cases c : h.nx < 1099511627776
  · rw [show Nat.blt h.nx 1099511627776 = true from Nat.ble_eq_true_of_le c]; simp [c]
  · rw [show Nat.blt h.nx 1099511627776 = false by cases q : Nat.blt h.nx 1099511627776 with
      | false => rfl
      | true => exact absurd (Nat.le_of_ble_eq_true q) c]
    simp [c]
theorem w_lst : (eLst fs ρ h).Wp QW E = (fs ρ h).Wp (fun ws h => line ws.length = true ∧ (h.nx < 1099511627776 ∧ QW (.ref h.nx) (h.new (.lst ws)))) E := by
  unfold eLst
  rw [wp_bind]
  simp only [wp_cond, w_al, wp_no]
  congr 1
  funext ws h
  cases line ws.length <;> simp
theorem w_cl : (eCl n gl fs ρ h).Wp QW E = (fs ρ h).Wp (fun ws h => ws.length = n ∧ (gl ws h).Wp QW E) E := by
  unfold eCl
  rw [wp_bind]
  simp only [wp_cond, wp_no]
  congr 1
  funext ws h
  by_cases c : ws.length = n
  · rw [c, Nat.beq_refl]; simp
  · rw [beq_f c]; simp [c]
theorem w_cl0 : (eCl0 gl ρ h).Wp QW E = (gl [] h).Wp QW E := rfl
theorem w_bl : (eBl gl fs ρ h).Wp QW E = (fs ρ h).Wp (fun ws h => (gl ws h).Wp QW E) E := by
  unfold eBl
  rw [wp_bind]
theorem w_asB : (asB f ρ h).Wp QB E = (f ρ h).Wp (fun w h => ∃ b, w = .bl b ∧ QB b h) E := by
  unfold asB
  rw [wp_bind]
  congr 1
  funext w h
  cases w <;> simp [Res.Wp]
theorem w_asT : (asT f ρ h).Wp QB E = (f ρ h).Wp (fun w h => ∃ b, truW w h = some b ∧ QB b h) E := by
  unfold asT
  rw [wp_bind]
  congr 1
  funext w h
  cases truW w h <;> simp [Res.Wp]
theorem w_tNt : (tNt t ρ h).Wp QB E = (t ρ h).Wp (fun b h => QB (!b) h) E := by
  unfold tNt
  rw [wp_bind]
  rfl
theorem w_tAn : (tAn t1 t2 ρ h).Wp QB E = (t1 ρ h).Wp (fun b h => if b = true then (t2 ρ h).Wp QB E else QB false h) E := by
  unfold tAn
  rw [wp_bind]
  simp only [wp_cond, wp_ok]
theorem w_tOr : (tOr' t1 t2 ρ h).Wp QB E = (t1 ρ h).Wp (fun b h => if b = true then QB true h else (t2 ρ h).Wp QB E) E := by
  unfold tOr'
  rw [wp_bind]
  simp only [wp_cond, wp_ok]
theorem w_tYs : (tYs ρ h).Wp QB E = QB true h := rfl
theorem w_eIf : (eIf t fa fb ρ h).Wp QW E = (t ρ h).Wp (fun b h => if b = true then (fa ρ h).Wp QW E else (fb ρ h).Wp QW E) E := by
  unfold eIf
  rw [wp_bind]
  simp only [wp_cond]
theorem w_eAn : (eAn fa fb ρ h).Wp QW E = (fa ρ h).Wp (fun w h => ∃ b, w = .bl b ∧ (if b = true then (fb ρ h).Wp QW E else QW (.bl false) h)) E := by
  unfold eAn
  rw [wp_bind]
  congr 1
  funext w h
  cases w with
  | bl b => cases b <;> simp [Res.Wp]
  | _ => simp [Res.Wp]
theorem w_eNtT : (eNtT f ρ h).Wp QW E = (f ρ h).Wp (fun w h => ∃ b, truW w h = some b ∧ QW (.bl (!b)) h) E := by
  unfold eNtT
  rw [wp_bind]
  congr 1
  funext w h
  cases truW w h <;> simp [Res.Wp]
theorem w_eOrT : (eOrT fa fb ρ h).Wp QW E = (fa ρ h).Wp (fun w h => ∃ b, truW w h = some b ∧ (if b = true then QW w h else (fb ρ h).Wp QW E)) E := by
  unfold eOrT
  rw [wp_bind]
  congr 1
  funext w h
  match truW w h with
  | none => simp [Res.Wp]
  | some true => simp [Res.Wp]
  | some false => simp
theorem w_oS : (oS f ρ h).Wp QO E = (f ρ h).Wp (fun w h => ∃ i, w = .int i ∧ QO (some i) h) E := by
  unfold oS
  rw [wp_bind]
  congr 1
  funext w h
  cases w <;> simp [Res.Wp]
theorem w_oN : (oN ρ h).Wp QO E = QO none h := rfl
theorem w_eIs {k : Kd} : (eIs k f ρ h).Wp QW E = (f ρ h).Wp (fun w h => ∃ b, instW k w h = some b ∧ QW (.bl b) h) E := by
  unfold eIs
  rw [wp_bind]
  congr 1
  funext w h
  cases instW k w h <;> simp [Res.Wp]
theorem w_eIs2 {k k' : Kd} : (eIs2 k k' f ρ h).Wp QW E = (f ρ h).Wp (fun w h => ∃ b, instW k w h = some b ∧ ∃ b', instW k' w h = some b' ∧ QW (.bl (b || b')) h) E := by
  unfold eIs2
  rw [wp_bind]
  congr 1
  funext w h
  cases instW k w h <;> cases instW k' w h <;> simp [Res.Wp]
theorem w_mt {chk : W → Hpe → Bool} {gm : W → List W → Hpe → Res W} : (eMt chk gm fo fs ρ h).Wp QW E = (fo ρ h).Wp (fun w h => chk w h = true ∧ (fs ρ h).Wp (fun ws h => (gm w ws h).Wp QW E) E) E := by
  unfold eMt
  rw [wp_bind]
  simp only [wp_cond, wp_no, wp_bind]
  congr 1
  funext w h
  cases chk w h <;> simp
theorem w_mt0 {chk : W → Hpe → Bool} {gm : W → List W → Hpe → Res W} : (eMt0 chk gm fo ρ h).Wp QW E = (fo ρ h).Wp (fun w h => chk w h = true ∧ (gm w [] h).Wp QW E) E := by
  unfold eMt0
  rw [wp_bind]
  simp only [wp_cond, wp_no]
  congr 1
  funext w h
  cases chk w h <;> simp
end
theorem w_wh {t : FT} {b : FS} {ρ : Rho} {h : Hpe} {D : Po} (I : Nat → Rho → Hpe → Prop) (k0 : Nat) (hk : k0 < 1000000) (h0 : I k0 ρ h)
    (step : ∀ k ρ h, I k ρ h → (t ρ h).Wp (fun c h1 => if c = true then (b ρ h1).Wp ⟨fun ρ h => ∃ k', k' < k ∧ I k' ρ h, D.rt, D.nx, fun ρ h => ∃ k', k' < k ∧ I k' ρ h, D.ex⟩ else D.nx ρ h1) (fun x h => D.ex x ρ h)) : (sWh t b ρ h).Wp D := by
  have main : ∀ (m k : Nat) (ρ : Rho) (h : Hpe), k < m → I k ρ h → (whileE t b m ρ h).Wp D := by
    intro m
    induction m with
    | zero => intro k ρ h q; omega
    | succ m ih =>
      intro k ρ h hk hi
      have st := step k ρ h hi
      unfold whileE
      rw [wp_bindS]
      refine st.mono (fun c h1 q => ?_) (fun _ _ q => q)
      rw [wp_condS]
      cases c with
      | false => exact q
      | true =>
        simp only [if_true] at q ⊢
        cases e : b ρ h1 with
        | nx ρ' h' => rw [e] at q; obtain ⟨k', lt, i'⟩ := q; exact ih k' ρ' h' (by omega) i'
        | ct ρ' h' => rw [e] at q; obtain ⟨k', lt, i'⟩ := q; exact ih k' ρ' h' (by omega) i'
        | bk ρ' h' => rw [e] at q; exact q
        | rt w h' => rw [e] at q; exact q
        | ex x ρ' h' => rw [e] at q; exact q
        | no => rw [e] at q; exact q
  exact main 1000000 k0 ρ h hk h0
theorem w_for {fi : FI} {g : FG} {b : FS} {ρ : Rho} {h : Hpe} {D : Po} (xs : List W) (I : Nat → Rho → Hpe → Prop) (hl : xs.length < 1000000)
    (h0 : (fi ρ h).Wp (fun src h1 => I 0 ρ h1 ∧ ∀ i ρ h, I i ρ h → src h i = some xs[i]?) (fun x h => D.ex x ρ h))
    (step : ∀ i w ρ h, xs[i]? = some w → I i ρ h → (g w ρ h).Wp ⟨fun ρ h => (b ρ h).Wp ⟨I (i + 1), D.rt, D.nx, I (i + 1), D.ex⟩, fun _ _ => False, fun _ _ => False, fun _ _ => False, D.ex⟩)
    (fin : ∀ ρ h, I xs.length ρ h → D.nx ρ h) : (sFor fi g b ρ h).Wp D := by
  unfold sFor
  rw [wp_bindS]
  refine h0.mono (fun src h1 ⟨i0, sr⟩ => ?_) (fun _ _ q => q)
  have main : ∀ (m i : Nat) (ρ : Rho) (h : Hpe), xs.length - i < m → i ≤ xs.length → I i ρ h → (forE src g b m i ρ h).Wp D := by
    intro m
    induction m with
    | zero => intro i ρ h q; omega
    | succ m ih =>
      intro i ρ h hm hi hI
      have e0 := sr i ρ h hI
      by_cases c : i < xs.length
      · have ew : xs[i]? = some xs[i] := List.getElem?_eq_getElem c
        have st := step i _ ρ h ew hI
        rw [ew] at e0
        unfold forE
        rw [e0]
        dsimp only
        cases e : g xs[i] ρ h with
        | nx ρ' h' =>
          rw [e] at st
          have st2 : (b ρ' h').Wp _ := st
          dsimp only
          cases e' : b ρ' h' with
          | nx ρ' h' => rw [e'] at st2; exact ih (i + 1) ρ' h' (by omega) (by omega) st2
          | ct ρ' h' => rw [e'] at st2; exact ih (i + 1) ρ' h' (by omega) (by omega) st2
          | bk ρ' h' => rw [e'] at st2; exact st2
          | rt w h' => rw [e'] at st2; exact st2
          | ex x ρ' h' => rw [e'] at st2; exact st2
          | no => rw [e'] at st2; exact st2
        | ct ρ' h' => rw [e] at st; exact st.elim
        | bk ρ' h' => rw [e] at st; exact st.elim
        | rt w h' => rw [e] at st; exact st.elim
        | ex x ρ' h' => rw [e] at st; exact st
        | no => rw [e] at st; exact st
      · have : i = xs.length := by omega
        subst this
        rw [List.getElem?_eq_none (Nat.le_refl _)] at e0
        unfold forE
        rw [e0]
        exact fin ρ h hI
  exact main 1000000 0 ρ h1 (by omega) (by omega) i0
theorem w_lc {fi : FI} {g : FG} {t : FT} {fe : FE} {vs : List Nat} {ρ : Rho} {h : Hpe} {Q : W → Hpe → Prop} {E : Exc → Hpe → Prop} (xs : List W) (I : Nat → List W → Hpe → Prop) (hl : xs.length < 100000)
    (h0 : (fi ρ h).Wp (fun src h1 => I 0 [] h1 ∧ ∀ i ys h, I i ys h → src h i = some xs[i]?) E)
    (step : ∀ i w ys h, xs[i]? = some w → I i ys h → (g w (wipeR ρ vs) h).Wp ⟨fun ρ' h => (t ρ' h).Wp (fun b h => if b = true then (fe ρ' h).Wp (fun y h => I (i + 1) (ys ++ [y]) h) (fun _ _ => False) else I (i + 1) ys h) (fun _ _ => False), fun _ _ => False, fun _ _ => False, fun _ _ => False, fun _ _ _ => False⟩)
    (fin : ∀ ys h, I xs.length ys h → h.nx < 1099511627776 ∧ Q (.ref h.nx) (h.new (.lst ys))) : (eLc fi g t fe vs ρ h).Wp Q E := by
  unfold eLc
  rw [wp_bind]
  refine h0.mono (fun src h1 ⟨i0, sr⟩ => ?_) (fun _ _ q => q)
  have main : ∀ (m i : Nat) (acc : List W) (h : Hpe), xs.length - i < m → i ≤ xs.length → I i acc.reverse h → (lcE src g t fe (wipeR ρ vs) m i acc h).Wp Q E := by
    intro m
    induction m with
    | zero => intro i acc h q; omega
    | succ m ih =>
      intro i acc h hm hi hI
      have e0 := sr i _ h hI
      by_cases c : i < xs.length
      · have ew : xs[i]? = some xs[i] := List.getElem?_eq_getElem c
        have st := step i _ _ h ew hI
        rw [ew] at e0
        unfold lcE
        rw [e0]
        dsimp only
        cases e : g xs[i] (wipeR ρ vs) h with
        | nx ρ' h' =>
          rw [e] at st
          have st2 : (t ρ' h').Wp _ _ := st
          dsimp only
          cases e' : t ρ' h' with
          | ok b h2 =>
            rw [e'] at st2
            dsimp only
            cases b with
            | false => exact ih (i + 1) acc h2 (by omega) (by omega) st2
            | true =>
              simp only [cond_true]
              have st3 : (fe ρ' h2).Wp _ _ := st2
              cases e'' : fe ρ' h2 with
              | ok y h3 =>
                rw [e''] at st3
                dsimp only
                rw [show line i = true from Nat.ble_eq_true_of_le (by omega)]
                simp only [cond_true]
                refine ih (i + 1) (y :: acc) h3 (by omega) (by omega) ?_
                rw [List.reverse_cons]
                exact st3
              | ex x h3 => rw [e''] at st3; exact st3.elim
              | no => rw [e''] at st3; exact st3.elim
          | ex x h2 => rw [e'] at st2; exact st2.elim
          | no => rw [e'] at st2; exact st2.elim
        | ct ρ' h' => rw [e] at st; exact st.elim
        | bk ρ' h' => rw [e] at st; exact st.elim
        | rt w h' => rw [e] at st; exact st.elim
        | ex x ρ' h' => rw [e] at st; exact st.elim
        | no => rw [e] at st; exact st.elim
      · have : i = xs.length := by omega
        subst this
        rw [List.getElem?_eq_none (Nat.le_refl _)] at e0
        unfold lcE
        rw [e0]
        dsimp only
        rw [w_al]
        exact fin _ h hI
  exact main 1000000 0 [] h1 (by omega) (by omega) i0
theorem w_gn {al : Bool} {fi : FI} {g : FG} {t : FT} {fe : FE} {vs : List Nat} {ρ : Rho} {h : Hpe} {Q : W → Hpe → Prop} {E : Exc → Hpe → Prop} (xs : List W) (I : Nat → Hpe → Prop) (hl : xs.length < 1000000)
    (h0 : (fi ρ h).Wp (fun src h1 => I 0 h1 ∧ ∀ i h, I i h → src h i = some xs[i]?) E)
    (step : ∀ i w h, xs[i]? = some w → I i h → (g w (wipeR ρ vs) h).Wp ⟨fun ρ' h => (t ρ' h).Wp (fun b h => if b = true then (fe ρ' h).Wp (fun y h => ∃ c, y = .bl c ∧ (if c = al then I (i + 1) h else Q (.bl (!al)) h)) (fun _ _ => False) else I (i + 1) h) (fun _ _ => False), fun _ _ => False, fun _ _ => False, fun _ _ => False, fun _ _ _ => False⟩)
    (fin : ∀ h, I xs.length h → Q (.bl al) h) : (eGn al fi g t fe vs ρ h).Wp Q E := by
  unfold eGn
  rw [wp_bind]
  refine h0.mono (fun src h1 ⟨i0, sr⟩ => ?_) (fun _ _ q => q)
  have main : ∀ (m i : Nat) (h : Hpe), xs.length - i < m → i ≤ xs.length → I i h → (gnE al src g t fe (wipeR ρ vs) m i h).Wp Q E := by
    intro m
    induction m with
    | zero => intro i h q; omega
    | succ m ih =>
      intro i h hm hi hI
      have e0 := sr i h hI
      by_cases c : i < xs.length
      · have ew : xs[i]? = some xs[i] := List.getElem?_eq_getElem c
        have st := step i _ h ew hI
        rw [ew] at e0
        unfold gnE
        rw [e0]
        dsimp only
        cases e : g xs[i] (wipeR ρ vs) h with
        | nx ρ' h' =>
          rw [e] at st
          have st2 : (t ρ' h').Wp _ _ := st
          dsimp only
          cases e' : t ρ' h' with
          | ok b h2 =>
            rw [e'] at st2
            dsimp only
            cases b with
            | false => exact ih (i + 1) h2 (by omega) (by omega) st2
            | true =>
              simp only [cond_true]
              have st3 : (fe ρ' h2).Wp _ _ := st2
              cases e'' : fe ρ' h2 with
              | ok y h3 =>
                rw [e''] at st3
                obtain ⟨cc, rfl, st4⟩ := st3
                dsimp only
                by_cases q : cc = al
                · rw [if_pos q] at st4
                  rw [show (cc == al) = true from beq_iff_eq.mpr q]
                  exact ih (i + 1) h3 (by omega) (by omega) st4
                · rw [if_neg q] at st4
                  rw [show (cc == al) = false from beq_eq_false_iff_ne.mpr q]
                  exact st4
              | ex x h3 => rw [e''] at st3; exact st3.elim
              | no => rw [e''] at st3; exact st3.elim
          | ex x h2 => rw [e'] at st2; exact st2.elim
          | no => rw [e'] at st2; exact st2.elim
        | ct ρ' h' => rw [e] at st; exact st.elim
        | bk ρ' h' => rw [e] at st; exact st.elim
        | rt w h' => rw [e] at st; exact st.elim
        | ex x ρ' h' => rw [e] at st; exact st.elim
        | no => rw [e] at st; exact st.elim
      · have : i = xs.length := by omega
        subst this
        rw [List.getElem?_eq_none (Nat.le_refl _)] at e0
        unfold gnE
        rw [e0]
        exact fin h hI
  exact main 1000000 0 h1 (by omega) (by omega) i0
end EV
namespace EV
open PySem PySem.Spec PyProof.Rows L2
section
variable {h h' h1 h2 : Hpe} {i j n c c1 c2 : Nat} {w u : W} {ws us xs ys : List W} {o : Ob} {x : Int} {Q : W → Hpe → Prop} {E : Exc → Hpe → Prop}
theorem nc_int {i : Int} : noClo (.int i) = true := rfl
theorem nc_bl {b : Bool} : noClo (.bl b) = true := rfl
theorem nc_tup : noClo (.tup ws) = true := rfl
theorem nc_ref : noClo (.ref n) = true := rfl
theorem nc_non : noClo .non = true := rfl
theorem nc_str {s : Str} : noClo (.str s) = true := rfl
theorem tr_bl {b : Bool} : truW (.bl b) h = some b := rfl
theorem tr_int {i : Int} : truW (.int i) h = some (i != 0) := rfl
theorem tr_tup : truW (.tup ws) h = some (!ws.isEmpty) := rfl
theorem tr_non : truW .non h = some false := rfl
theorem tr_lst (g : h.get n = some (.lst ws)) : truW (.ref n) h = some (!ws.isEmpty) := by
  simp only [truW, g]
theorem iw_tup {t : Kd} : instW t (.tup ws) h = some (match t with | .tuple => true | _ => false) := rfl
theorem iw_int {t : Kd} {i : Int} : instW t (.int i) h = some (match t with | .int => true | _ => false) := rfl
theorem iw_bl {t : Kd} {b : Bool} : instW t (.bl b) h = some (match t with | .int => true | .bool => true | _ => false) := rfl
theorem iw_str {t : Kd} {s : Str} : instW t (.str s) h = some (match t with | .str => true | _ => false) := rfl
theorem iw_non {t : Kd} : instW t .non h = some false := rfl
theorem iw_lst {t : Kd} (g : h.get n = some (.lst ws)) : instW t (.ref n) h = some (match t with | .list => true | _ => false) := by
  have e := rdL_of g
  cases t <;> simp only [instW, e]
theorem line_of (l : n ≤ 100000) : line n = true := Nat.ble_eq_true_of_le l
theorem get_new (p : h.nx < 2199023255551) : (h.new o).get i = if i = h.nx then some o else h.get i := by
  by_cases c : i = h.nx
  · rw [if_pos c, c]; exact new_get o (by omega)
  · rw [if_neg c]; exact new_old o c
theorem get_set (p : n < 2199023255551) : (h.set n o).get i = if i = n then some o else h.get i := by
  by_cases c : i = n
  · rw [if_pos c, c]; exact set_get o (by omega)
  · rw [if_neg c]; exact set_old o c
theorem unl_nil (a : h.lk = []) (b : h'.lk = []) : unl h h' = h' := by
  unfold unl
  rw [a, b]
  show { unlk h [] h' with lk := [] } = h'
  unfold unlk
  rw [← b]
structure Gr (M : Nat → Prop) (c : Nat) (h h' : Hpe) : Prop where
  le : h.nx ≤ h'.nx
  lt : h'.nx ≤ h.nx + c
  old : ∀ i, i < h.nx → ¬ M i → h'.get i = h.get i
  lk : h'.lk = h.lk
theorem Gr.refl {M : Nat → Prop} : Gr M c h h := ⟨Nat.le_refl _, Nat.le_add_right _ _, fun _ _ _ => rfl, rfl⟩
theorem Gr.trans {M : Nat → Prop} (a : Gr M c1 h h1) (b : Gr M c2 h1 h2) : Gr M (c1 + c2) h h2 :=
  ⟨Nat.le_trans a.le b.le, by have := a.lt; have := b.lt; omega, fun i hi m => (b.old i (Nat.lt_of_lt_of_le hi a.le) m).trans (a.old i hi m), b.lk.trans a.lk⟩
theorem Gr.mono {M M' : Nat → Prop} (a : Gr M c1 h h1) (l : c1 ≤ c2) (m : ∀ i, i < h.nx → M i → M' i) : Gr M' c2 h h1 :=
  ⟨a.le, Nat.le_trans a.lt (by omega), fun i hi k => a.old i hi fun q => k (m i hi q), a.lk⟩
theorem Gr.new {M : Nat → Prop} (o : Ob) : Gr M 1 h (h.new o) :=
  ⟨Nat.le_succ _, Nat.le_refl _, fun i hi _ => new_old o (by omega), rfl⟩
theorem Gr.set {M : Nat → Prop} (o : Ob) (m : h.nx ≤ n ∨ M n) : Gr M 0 h (h.set n o) :=
  ⟨Nat.le_refl _, Nat.le_refl _, fun i hi k => set_old o (by
    intro e
    subst e
    rcases m with m | m
    · omega
    · exact k m), rfl⟩
theorem frm_wp {g : List W → Hpe → Res W} {Q : W → Prop} (a : noRefs ws = true) (e : (g ws Hpe.nil).Wp (fun w _ => noRef w = true ∧ Q w) (fun _ _ => False)) : ∃ w, noRef w = true ∧ Q w ∧ ∀ h, frm g ws h = .ok w h := by
  cases q : g ws Hpe.nil with
  | ok w h0 =>
    rw [q] at e
    refine ⟨w, e.1, e.2, fun h => ?_⟩
    unfold frm
    rw [a, q]
    simp only [cond_true, e.1]
  | ex x h0 => rw [q] at e; exact e.elim
  | no => rw [q] at e; exact e.elim
theorem frm_is {g : List W → Hpe → Res W} {u : W} (a : noRefs ws = true) (b : noRef u = true) (e : (g ws Hpe.nil).Wp (fun w _ => w = u) (fun _ _ => False)) (h : Hpe) : frm g ws h = .ok u h := by
  obtain ⟨w, _, rfl, z⟩ := frm_wp (Q := fun w => w = u) a (e.mono (fun w _ q => ⟨by rw [q]; exact b, q⟩) (fun _ _ q => q))
  exact z h
theorem run_wp {n : Nat} {f : FS} {Q : W → Hpe → Prop} {E : Exc → Hpe → Prop} (e : (f (ws.map some ++ List.replicate (n - ws.length) none) h).Wp ⟨fun _ h => Q .non h, Q, fun _ _ => False, fun _ _ => False, fun x _ h => E x h⟩) : (runB n f ws h).Wp Q E := by
  unfold runB
  cases q : f (ws.map some ++ List.replicate (n - ws.length) none) h <;> rw [q] at e <;> exact e
theorem wp_eq {α : Type} {r : Res α} {a : α} (e : r = .ok a h') {Q : α → Hpe → Prop} {E : Exc → Hpe → Prop} (q : Q a h') : r.Wp Q E := by rw [e]; exact q
theorem srcT_at (ws : List W) (i : Nat) (h : Hpe) : srcT ws h i = some ws[i]? := by
  unfold srcT
  rw [nthR_eq]
  cases ws[i]? <;> rfl
theorem srcL_at (g : rdL h n = some ws) (i : Nat) : srcL n h i = some ws[i]? := by
  unfold srcL
  rw [g]
  dsimp only
  rw [nthR_eq]
  cases ws[i]? <;> rfl
def rngW (lo : Int) (n : Nat) : List W := (List.range n).map fun (i : Nat) => W.int (lo + (i : Int))
theorem rngW_len (lo : Int) (n : Nat) : (rngW lo n).length = n := by unfold rngW; rw [List.length_map, List.length_range]
theorem rngW_at (lo : Int) (n i : Nat) : (rngW lo n)[i]? = if i < n then some (.int (lo + (i : Int))) else none := by
  unfold rngW
  rw [List.getElem?_map]
  by_cases c : i < n
  · rw [if_pos c, List.getElem?_range c]; rfl
  · rw [if_neg c, List.getElem?_eq_none (by rw [List.length_range]; omega)]; rfl
theorem srcR_at (lo : Int) (n i : Nat) (h : Hpe) : srcR lo n h i = some (rngW lo n)[i]? := by
  unfold srcR
  rw [rngW_at]
  by_cases c : i < n
  · rw [if_pos c, show Nat.blt i n = true from Nat.ble_eq_true_of_le c]; rfl
  · rw [if_neg c]
    rw [show Nat.blt i n = false by cases q : Nat.blt i n with
      | false => rfl
      | true => exact absurd (Nat.le_of_ble_eq_true q) c]
    rfl
theorem add_ii {i j : Int} : gAdd (.int i) (.int j) h = .ok (.int (i + j)) h := rfl
theorem add_tt : (gAdd (.tup xs) (.tup ys) h).Wp Q E = (xs.length + ys.length ≤ 100000 ∧ Q (.tup (xs ++ ys)) h) := by
  show (bif line (xs.length + ys.length) then Res.ok (W.tup (xs ++ ys)) h else .no).Wp Q E = _
  rw [wp_cond, wp_ok, wp_no]
  unfold line
  by_cases c : xs.length + ys.length ≤ 100000
  · rw [Nat.ble_eq_true_of_le c]; simp [c]
  · rw [show Nat.ble (xs.length + ys.length) 100000 = false by cases q : Nat.ble (xs.length + ys.length) 100000 with
      | false => rfl
      | true => exact absurd (Nat.le_of_ble_eq_true q) c]
    simp [c]
theorem len_t : bLen3 [.tup ws] h = .ok (.int (ws.length : Nat)) h := rfl
theorem len_l (g : h.get n = some (.lst ws)) : bLen3 [.ref n] h = .ok (.int (ws.length : Nat)) h := len_lst g
theorem ix_t {i : Int} {w : W} (e : atI ws i = some w) : gIx2 (.tup ws) (.int i) h = .ok w h := by
  unfold gIx2 gIx
  dsimp only
  rw [e]
theorem atI_n {w : W} {i : Nat} (e : ws[i]? = some w) : atI ws (i : Int) = some w := by
  have hi := (List.getElem?_eq_some_iff.mp e).1
  rw [atI_pos hi]
  exact congrArg some (List.getElem?_eq_some_iff.mp e).2
end
end EV
namespace EV
open PySem PySem.Spec PyProof.Rows L2
section
local macro_rules | `(tactic| w_up) => `(tactic| simp only [w_seq, w_nil, w_rt, w_rtN, w_ex, w_as, w_if, w_par, w_rs, w_v, w_k, w_aN, w_aC, w_e2, w_tup, w_lst, w_cl, w_cl0, w_bl, w_asB, w_asT, w_tNt, w_tAn, w_tOr, w_tYs, w_eIf, w_eAn, w_eNtT, w_eOrT, w_oS, w_oN, w_eIs, w_eIs2, w_mt, w_mt0, wp_ok, wp_exc, List.getElem?_cons_zero, List.getElem?_cons_succ, List.set_cons_zero, List.set_cons_succ, Option.some.injEq, exists_eq_left', nc_int, nc_bl, nc_tup, nc_ref, nc_non, nc_str, true_and, and_true, List.length_cons, List.length_nil, List.map_cons, List.map_nil, W.bl.injEq, W.int.injEq, Bool.not_true, Bool.not_false, Bool.false_eq_true, if_true, if_false, iw_tup, iw_int, iw_bl, iw_str, iw_non, tr_bl, tr_int, tr_tup, tr_non])
mutual
def dat : W → Bool
  | .non => true
  | .bl _ => true
  | .int _ => true
  | .str _ => true
  | .tup ws => dats ws
  | _ => false
def dats : List W → Bool
  | [] => true
  | w :: ws => dat w && dats ws
end
mutual
def tn : W → Nat
  | .tup ws => tns ws + 1
  | _ => 1
def tns : List W → Nat
  | [] => 0
  | w :: ws => tn w + tns ws
end
theorem dats_app : ∀ a b : List W, dats (a ++ b) = (dats a && dats b)
  | [], b => rfl
  | w :: a, b => by
    show (dat w && dats (a ++ b)) = ((dat w && dats a) && dats b)
    rw [dats_app a b, Bool.and_assoc]
theorem tns_app : ∀ a b : List W, tns (a ++ b) = tns a + tns b
  | [], b => (Nat.zero_add _).symm
  | w :: a, b => by
    show tn w + tns (a ++ b) = tn w + tns a + tns b
    rw [tns_app a b, Nat.add_assoc]
theorem dats_at : ∀ {ws : List W} {i : Nat} {w : W}, dats ws = true → ws[i]? = some w → dat w = true
  | [], _, _, _, e => by simp at e
  | w :: ws, 0, _, d, e => by
    simp at e
    subst e
    exact ((Bool.and_eq_true _ _).mp d).1
  | w :: ws, i + 1, _, d, e => dats_at (ws := ws) (i := i) ((Bool.and_eq_true _ _).mp d).2 (by simpa using e)
def allT : List W → Bool
  | [] => true
  | .tup _ :: ws => allT ws
  | _ :: _ => false
theorem allT_app : ∀ {a b : List W}, allT a = true → allT b = true → allT (a ++ b) = true
  | [], b, _, h => h
  | .tup _ :: a, b, h, h' => allT_app (a := a) h h'
  | .non :: a, b, h, h' => by cases h
  | .bl _ :: a, b, h, h' => by cases h
  | .int _ :: a, b, h, h' => by cases h
  | .str _ :: a, b, h, h' => by cases h
  | .ref _ :: a, b, h, h' => by cases h
  | .df _ :: a, b, h, h' => by cases h
  | .clo _ _ :: a, b, h, h' => by cases h
theorem tn_pos : ∀ w : W, 1 ≤ tn w
  | .tup ws => Nat.le_add_left 1 (tns ws)
  | .non => Nat.le_refl _
  | .bl _ => Nat.le_refl _
  | .int _ => Nat.le_refl _
  | .str _ => Nat.le_refl _
  | .ref _ => Nat.le_refl _
  | .df _ => Nat.le_refl _
  | .clo _ _ => Nat.le_refl _
theorem tns_len : ∀ a : List W, a.length ≤ tns a
  | [] => Nat.le_refl _
  | w :: a => by
    have := tns_len a
    have := tn_pos w
    show a.length + 1 ≤ tn w + tns a
    omega
theorem allT_last {a : List W} {w : W} (h : allT (a ++ [w]) = true) : allT a = true ∧ ∃ ws, w = .tup ws := by
  induction a with
  | nil => cases w <;> first | exact ⟨rfl, _, rfl⟩ | cases h
  | cons v a ih => cases v <;> first | exact ih h | cases h
def uHold : FS :=
    (sSeq (sIf (tNt (asT (eIs Kd.tuple (eV 0)))) (sSeq (sRt (eIs Kd.list (eV 0)))
      sNil) sNil)
      (sSeq (sAs (eLst (aC (eV 0) aN)) (gN 1))
      (sSeq (sWh (asT (eV 1)) (sSeq (sAs (eMt0 chkL mPop (eV 1)) (gN 2))
      (sSeq (sUn (sFor (iV3 (eV 2)) (gN 3) (sSeq (sIf (asT (eIs Kd.tuple (eV 3))) (sSeq (sEx (eMt chkL mApp (eV 1) (aC (eV 3) aN)))
      sNil) (sSeq (sIf (asT (eIs Kd.list (eV 3))) (sSeq (sRt (eK (.bl true)))
      sNil) sNil)
      sNil))
      sNil)))
      sNil)))
      (sSeq (sRt (eK (.bl false)))
      sNil))))
theorem w_un {f : FS} {ρ : Rho} {h : Hpe} {D : Po} : (sUn f ρ h).Wp D = (f ρ h).Wp ⟨fun ρ h' => D.nx ρ (unl h h'), fun w h' => D.rt w (unl h h'), D.bk, D.ct, D.ex⟩ := by
  unfold sUn
  cases f ρ h <;> rfl
theorem w_gN {i : Nat} {w : W} {ρ : Rho} {h : Hpe} {D : Po} : (gN i w ρ h).Wp D = D.nx (ρ.set i (some w)) h := by
  unfold gN
  rw [setR_eq]
  rfl
theorem w_app {n : Nat} {h : Hpe} {ws : List W} {y : W} {Q : W → Hpe → Prop} {E : Exc → Hpe → Prop} (g : h.get n = some (.lst ws)) (l : ws.length ≤ 100000) (q : Q .non (h.set n (.lst (ws ++ [y])))) : (mApp (.ref n) [y] h).Wp Q E := by
  unfold mApp
  dsimp only
  rw [g]
  dsimp only
  rw [line_of l]
  exact q
theorem w_pop {n : Nat} {h : Hpe} {ws : List W} {y : W} {Q : W → Hpe → Prop} {E : Exc → Hpe → Prop} (g : h.get n = some (.lst (ws ++ [y]))) (q : Q y (h.set n (.lst ws))) : (mPop (.ref n) [] h).Wp Q E := by
  unfold mPop
  dsimp only
  rw [g]
  dsimp only
  rw [show (ws ++ [y]).length - 1 = ws.length by simp, List.getElem?_append_right (Nat.le_refl _), Nat.sub_self]
  show Q y (h.set n (.lst (ws ++ [y]).dropLast))
  rw [List.dropLast_concat]
  exact q
theorem chk_lst {n : Nat} {h : Hpe} {ws : List W} (g : h.get n = some (.lst ws)) : chkL (.ref n) h = true := by
  simp only [chkL, g]
theorem w_iT {f : FE} {ρ : Rho} {h : Hpe} {Q : Src → Hpe → Prop} {E : Exc → Hpe → Prop} (e : (f ρ h).Wp (fun w h => ∃ ws, w = .tup ws ∧ Q (srcT ws) h) E) : (iV3 f ρ h).Wp Q E := by
  unfold iV3
  rw [wp_bind]
  refine e.mono (fun w h ⟨ws, e, q⟩ => ?_) (fun _ _ q => q)
  subst e
  exact q
theorem hold_loop (v : W) (n : Nat) (hn : n < 1000000) : ∀ (k : Nat) (ws : List W) (ρ : Rho) (h : Hpe) (D : Po), k < 90000 → tns ws ≤ k → dats ws = true → allT ws = true → h.get n = some (.lst ws) → h.lk = [] → (∃ a b, ρ = [some v, some (.ref n), a, b]) →
    (∀ ρ' h', D.nx ρ' h') → (sWh (asT (eV 1)) (sSeq (sAs (eMt0 chkL mPop (eV 1)) (gN 2))
      (sSeq (sUn (sFor (iV3 (eV 2)) (gN 3) (sSeq (sIf (asT (eIs Kd.tuple (eV 3))) (sSeq (sEx (eMt chkL mApp (eV 1) (aC (eV 3) aN)))
      sNil) (sSeq (sIf (asT (eIs Kd.list (eV 3))) (sSeq (sRt (eK (.bl true)))
      sNil) sNil)
      sNil))
      sNil)))
      sNil)) ρ h).Wp D := by
  intro k ws ρ h D hk e1 e2 e3 g lk er fin
  refine w_wh (fun k ρ h => ∃ ws a b, k < 90000 ∧ tns ws ≤ k ∧ dats ws = true ∧ allT ws = true ∧ h.get n = some (.lst ws) ∧ h.lk = [] ∧ ρ = [some v, some (.ref n), a, b]) k (by omega) ?_ ?_
  · obtain ⟨a, b, rfl⟩ := er
    exact ⟨ws, a, b, hk, e1, e2, e3, g, lk, rfl⟩
  · rintro k ρ h ⟨ws, a, b, hk, e1, e2, e3, g, lk, rfl⟩
    w_up
    refine ⟨_, tr_lst g, ?_⟩
    rcases List.eq_nil_or_concat ws with rfl | ⟨us, w, eu⟩
    · exact fin _ _
    · rw [List.concat_eq_append] at eu
      subst eu
      rw [show (!(us ++ [w]).isEmpty) = true by simp]
      rw [if_pos rfl]
      refine ⟨chk_lst g, w_pop g ?_⟩
      obtain ⟨t3, vs, rfl⟩ := allT_last e3
      rw [dats_app] at e2
      obtain ⟨d1, d2⟩ := (Bool.and_eq_true _ _).mp e2
      have d3 : dats vs = true := ((Bool.and_eq_true _ _).mp d2).1
      have m1 : tns us + (tns vs + 1) ≤ k := by
        rw [tns_app] at e1
        exact e1
      have g1 : (h.set n (.lst us)).get n = some (.lst us) := by rw [get_set (by omega), if_pos rfl]
      have lv := tns_len vs
      rw [w_un]
      refine w_for vs (fun i ρ h => ∃ xs b, ρ = [some v, some (.ref n), some (.tup vs), b] ∧ h.get n = some (.lst xs) ∧ h.lk = [] ∧ dats xs = true ∧ allT xs = true ∧ tns xs + tns (vs.drop i) ≤ tns us + tns vs) (by omega) ?_ ?_ ?_
      · refine w_iT ?_
        w_up
        exact ⟨_, rfl, ⟨us, b, rfl, g1, lk, d1, t3, Nat.le_refl _⟩, fun i _ h _ => srcT_at _ _ _⟩
      · rintro i w ρ h' ew ⟨xs, b', rfl, g2, lk2, x1, x2, x3⟩
        have dw := dats_at d3 ew
        have hi := (List.getElem?_eq_some_iff.mp ew).1
        have hd : vs.drop i = w :: vs.drop (i + 1) := by
          rw [List.drop_eq_getElem_cons hi]
          exact congrArg (· :: _) (List.getElem?_eq_some_iff.mp ew).2
        rw [hd] at x3
        have x4 : tns xs + (tn w + tns (vs.drop (i + 1))) ≤ tns us + tns vs := x3
        have lx := tns_len xs
        rw [w_gN]
        have skip : ∀ b, ∃ xs b', [some v, some (.ref n), some (.tup vs), b] = [some v, some (.ref n), some (.tup vs), b'] ∧ h'.get n = some (.lst xs) ∧ h'.lk = [] ∧ dats xs = true ∧ allT xs = true ∧ tns xs + tns (vs.drop (i + 1)) ≤ tns us + tns vs := fun b => ⟨xs, b, rfl, g2, lk2, x1, x2, by omega⟩
        cases w with
        | tup ts =>
          w_up
          refine ⟨chk_lst g2, w_app g2 (by omega) ?_⟩
          refine ⟨xs ++ [.tup ts], _, rfl, by rw [get_set (by omega), if_pos rfl], lk2, by rw [dats_app, x1]; show (dat (.tup ts) && true) = true; rw [dw]; rfl, allT_app x2 rfl, ?_⟩
          rw [tns_app]
          show tns xs + (tn (.tup ts) + 0) + _ ≤ _
          omega
        | non => w_up; exact skip _
        | bl c => w_up; exact skip _
        | int c => w_up; exact skip _
        | str c => w_up; exact skip _
        | ref c => cases dw
        | df c => cases dw
        | clo c d => cases dw
      · rintro ρ h' ⟨xs, b', rfl, g2, lk2, x1, x2, x3⟩
        have : tns (vs.drop vs.length) = 0 := by rw [List.drop_length]; rfl
        w_up
        rw [unl_nil (by exact lk) lk2]
        exact ⟨tns us + tns vs, by omega, xs, _, _, by omega, by omega, x1, x2, g2, lk2, rfl⟩
theorem hold_wp {w : W} (d : dat w = true) (s : tn w < 90000) : (runB 4 uHold [w] Hpe.nil).Wp (fun u _ => u = .bl false) (fun _ _ => False) := by
  refine run_wp ?_
  show (uHold [some w, none, none, none] Hpe.nil).Wp _
  unfold uHold
  cases w with
  | tup ws =>
    w_up
    refine ⟨rfl, by decide, ?_⟩
    refine hold_loop _ _ (by decide) (tn (.tup ws)) [.tup ws] _ _ _ s (Nat.le_refl _) (by show (dat (.tup ws) && true) = true; rw [d]; rfl) rfl (new_get _ (by decide)) rfl ⟨_, _, rfl⟩ ?_
    intro ρ h
    trivial
  | non => w_up
  | bl c => w_up
  | int c => w_up
  | str c => w_up
  | ref c => cases d
  | df c => cases d
  | clo c e => cases d
end
end EV
namespace EV
open PySem PySem.Spec PyProof.Rows L2
theorem qe_bl {b c : Bool} {h : Hpe} {n : Bool} : gEq n (.bl b) (.bl c) h = .ok (.bl (n != (b == c))) h := by
  cases b <;> cases c <;> cases n <;> rfl
theorem qe_int {n : Bool} {i j : Int} {h : Hpe} : gEq n (.int i) (.int j) h = .ok (.bl (n != (i == j))) h := rfl
theorem qe_non {n : Bool} {h : Hpe} : gEq n .non .non h = .ok (.bl (n != true)) h := rfl
theorem isN_t {n : Bool} {h : Hpe} : gIsN n .non .non h = .ok (.bl (n != true)) h := by cases n <;> rfl
theorem isN_f {n : Bool} {w : W} {h : Hpe} (e : match w with | .non => False | _ => True) : gIsN n w .non h = .ok (.bl (n != false)) h := by
  cases w <;> first | (cases n <;> rfl) | exact e.elim
section
local macro_rules | `(tactic| w_up) => `(tactic| simp only [w_seq, w_nil, w_rt, w_rtN, w_ex, w_as, w_if, w_par, w_rs, w_v, w_k, w_aN, w_aC, w_e2, w_tup, w_lst, w_cl, w_cl0, w_bl, w_asB, w_asT, w_tNt, w_tAn, w_tOr, w_tYs, w_eIf, w_eAn, w_eNtT, w_eOrT, w_oS, w_oN, w_eIs, w_eIs2, w_mt, w_mt0, wp_ok, wp_exc, List.getElem?_cons_zero, List.getElem?_cons_succ, List.set_cons_zero, List.set_cons_succ, Option.some.injEq, exists_eq_left', nc_int, nc_bl, nc_tup, nc_ref, nc_non, nc_str, true_and, and_true, List.length_cons, List.length_nil, List.map_cons, List.map_nil, W.bl.injEq, W.int.injEq, Bool.not_true, Bool.not_false, Bool.false_eq_true, if_true, if_false, iw_tup, iw_int, iw_bl, iw_str, iw_non, tr_bl, tr_int, tr_tup, tr_non, Bool.or_true, Bool.or_false, Bool.true_or, wipeR, qe_bl, qe_int, qe_non, isN_f, isN_t, beq_self_eq_true, bne_self_eq_false, Bool.false_bne, Bool.true_bne])
inductive Sm (h : Hpe) (B : Nat → Prop) : Nat → Nat → W → W → Prop
  | non {d n} : Sm h B (d + 1) n .non .non
  | bl {d n} (b : Bool) : Sm h B (d + 1) n (.bl b) (.bl b)
  | int {d n} (i : Int) : Sm h B (d + 1) n (.int i) (.int i)
  | str {d n} (s : Str) (l : ∀ h, gEq false (.str s) (.str s) h = .ok (.bl true) h) : Sm h B (d + 1) n (.str s) (.str s)
  | tup {d n} {ws us : List W} (e : ws.length = us.length) (l : ws.length ≤ n) (s : ∀ (i : Nat) (w u : W), ws[i]? = some w → us[i]? = some u → Sm h B d n w u) : Sm h B (d + 1) n (.tup ws) (.tup us)
  | lst {d n i j} {ws us : List W} (g : h.get i = some (.lst ws)) (g' : h.get j = some (.lst us)) (hi : i < h.nx) (hj : j < h.nx) (ni : ¬ B i) (nj : ¬ B j) (e : ws.length = us.length) (l : ws.length ≤ n) (s : ∀ (i : Nat) (w u : W), ws[i]? = some w → us[i]? = some u → Sm h B d n w u) : Sm h B (d + 1) n (.ref i) (.ref j)
theorem Sm.mono {h h' : Hpe} {B : Nat → Prop} (o : ∀ i, i < h.nx → ¬ B i → h'.get i = h.get i) (le : h.nx ≤ h'.nx) : ∀ {d n : Nat} {w u : W}, Sm h B d n w u → ∀ {d' n' : Nat}, d ≤ d' → n ≤ n' → Sm h' B d' n' w u := by
  intro d
  induction d with
  | zero => intro n w u s; cases s
  | succ d ih =>
    intro n w u s d' n' hd hn
    obtain ⟨e, rfl⟩ : ∃ e, d' = e + 1 := ⟨d' - 1, by omega⟩
    cases s with
    | non => exact .non
    | bl b => exact .bl b
    | int i => exact .int i
    | str s l => exact .str s l
    | tup e l s => exact .tup e (Nat.le_trans l hn) fun i w u a b => ih (s i w u a b) (by omega) hn
    | lst g g' hi hj ni nj e l s => exact .lst ((o _ hi ni).trans g) ((o _ hj nj).trans g') (Nat.lt_of_lt_of_le hi le) (Nat.lt_of_lt_of_le hj le) ni nj e (Nat.le_trans l hn) fun i w u a b => ih (s i w u a b) (by omega) hn
theorem Sm.nc {h : Hpe} {B : Nat → Prop} {d n : Nat} {w u : W} (s : Sm h B d n w u) : noClo w = true ∧ noClo u = true := by cases s <;> exact ⟨rfl, rfl⟩
def uSame (g : List W → Hpe → Res W) : FS :=
    (sSeq (sIf (asT (eIs2 Kd.list Kd.tuple (eV 1))) (sSeq (sIf (tOr' (asB (e2 (gEq true) (eIs Kd.list (eV 0)) (eIs Kd.list (eV 1)))) (asB (e2 (gEq true) (eIs Kd.tuple (eV 0)) (eIs Kd.tuple (eV 1))))) (sSeq (sRt (eK (.bl false)))
      sNil) sNil)
      (sSeq (sRt (eAn (e2 (gEq false) (eBl bLen3 (aC (eV 0) aN)) (eBl bLen3 (aC (eV 1) aN))) (eBl (bAllAny fun bs => bs.all id) (aC (eComp (.lst []) (iOr (ltR (aC (eV 0) (aC (eV 1) aN))) (iZMf (aC (eV 0) (aC (eV 1) aN))) (iZ (aC (eV 0) (aC (eV 1) aN)))) (gTL 2 (gsC (gN 2) (gsC (gN 3) gsN))) tYs (moreL (eCl 2 g (aC (eV 2) (aC (eV 3) aN)))) [2, 3]) aN))))
      sNil)) sNil)
      (sSeq (sIf (tOr' (asB (e2 (gIsN false) (eV 1) (eK .non))) (asT (eIs2 Kd.bool Kd.str (eV 1)))) (sSeq (sRt (eAn (e2 (gEq false) (eV 0) (eV 1)) (eAn (e2 (gEq false) (eIs Kd.bool (eV 0)) (eIs Kd.bool (eV 1))) (e2 (gEq false) (e2 (gIsN false) (eV 0) (eK .non)) (e2 (gIsN false) (eV 1) (eK .non))))))
      sNil) sNil)
      (sSeq (sRt (eAn (eIs Kd.int (eV 0)) (eAn (eNtT (eIs Kd.bool (eV 0))) (e2 (gEq false) (eV 0) (eV 1)))))
      sNil)))
theorem w_compL {fi : FI} {g : FG} {t : FT} {fe : FE} {vs : List Nat} {ρ : Rho} {h : Hpe} {Q : W → Hpe → Prop} {E : Exc → Hpe → Prop} (xs : List W) (I : Nat → Nat → List W → Hpe → Prop) (hl : xs.length < 100000)
    (h0 : (fi ρ h).Wp (fun src h1 => (h1.nx < 1099511627776 ∧ I h1.nx 0 [] (h1.new (.lst []))) ∧ ∀ n i ys h, I n i ys h → src h i = some xs[i]?) E)
    (step : ∀ n i w ys h, xs[i]? = some w → I n i ys h → ys.length ≤ i → (g w (wipeR ρ vs) h).Wp ⟨fun ρ' h => (t ρ' h).Wp (fun b h => if b = true then (fe ρ' h).Wp (fun y h => h.get n = some (.lst ys) ∧ I n (i + 1) (ys ++ [y]) (h.set n (.lst (ys ++ [y])))) E else I n (i + 1) ys h) E, fun _ _ => False, fun _ _ => False, fun _ _ => False, fun _ _ _ => False⟩)
    (fin : ∀ n ys h, I n xs.length ys h → Q (.ref n) h) : (eComp (.lst []) fi g t (moreL fe) vs ρ h).Wp Q E := by
  unfold eComp
  rw [wp_bind]
  refine h0.mono (fun src h1 ⟨⟨nx, i0⟩, sr⟩ => ?_) (fun _ _ q => q)
  rw [wp_bind, w_al]
  refine ⟨nx, ?_⟩
  dsimp only
  rw [wp_bind]
  generalize h1.nx = n at i0 ⊢
  generalize h1.new (.lst []) = h2 at i0 ⊢
  have main : ∀ (m i : Nat) (ys : List W) (h : Hpe), xs.length - i < m → i ≤ xs.length → ys.length ≤ i → I n i ys h → (loopC g t (moreL fe n) src (wipeR ρ vs) m i h).Wp (fun _ h => Q (.ref n) h) E := by
    intro m
    induction m with
    | zero => intro i ys h q; omega
    | succ m ih =>
      intro i ys h hm hi hy hI
      have e0 := sr n i _ h hI
      by_cases c : i < xs.length
      · have ew : xs[i]? = some xs[i] := List.getElem?_eq_getElem c
        have st := step n i _ _ h ew hI hy
        rw [ew] at e0
        unfold loopC
        rw [e0]
        dsimp only
        cases e : g xs[i] (wipeR ρ vs) h with
        | nx ρ' h' =>
          rw [e] at st
          have st2 : (t ρ' h').Wp _ _ := st
          dsimp only
          rw [wp_bind]
          refine st2.mono (fun b h2 q => ?_) (fun _ _ q => q)
          cases b with
          | false =>
            simp only [Bool.false_eq_true, if_false] at q
            exact ih (i + 1) ys h2 (by omega) (by omega) (by omega) q
          | true =>
            simp only [if_true] at q
            simp only [cond_true]
            rw [wp_bind]
            unfold moreL
            rw [wp_bind]
            refine q.mono (fun y h3 ⟨g3, q3⟩ => ?_) (fun _ _ q => q)
            unfold toU
            rw [wp_bind]
            refine w_app g3 (by omega) ?_
            exact ih (i + 1) _ _ (by omega) (by omega) (by rw [List.length_append]; show ys.length + 1 ≤ _; omega) q3
        | ct ρ' h' => rw [e] at st; exact st.elim
        | bk ρ' h' => rw [e] at st; exact st.elim
        | rt w h' => rw [e] at st; exact st.elim
        | ex x ρ' h' => rw [e] at st; exact st.elim
        | no => rw [e] at st; exact st.elim
      · have : i = xs.length := by omega
        subst this
        rw [List.getElem?_eq_none (Nat.le_refl _)] at e0
        unfold loopC
        rw [e0]
        exact fin n ys h hI
  refine (main 1000000 0 [] h2 (by omega) (by omega) (Nat.le_refl _) i0).mono (fun _ h q => q) (fun _ _ q => q)
theorem w_gT2 {i j : Nat} {a b : W} {ρ : Rho} {h : Hpe} {D : Po} : (gTL 2 (gsC (gN i) (gsC (gN j) gsN)) (.tup [a, b]) ρ h).Wp D = D.nx ((ρ.set i (some a)).set j (some b)) h := by
  show (((gN i a ρ h).seq fun ρ' h' => gsC (gN j) gsN [b] ρ' h')).Wp D = _
  unfold gN
  rw [setR_eq]
  show (((gN j b (ρ.set i (some a)) h).seq fun ρ' h' => gsN [] ρ' h')).Wp D = _
  unfold gN
  rw [setR_eq]
  rfl
theorem w_iOr {c : Rho → Hpe → Bool} {f1 f2 : FI} {ρ : Rho} {h : Hpe} {Q : Src → Hpe → Prop} {E : Exc → Hpe → Prop} : (iOr c f1 f2 ρ h).Wp Q E = if c ρ h = true then (f1 ρ h).Wp Q E else (f2 ρ h).Wp Q E := by
  unfold iOr
  rw [wp_cond]
def zipW (ws us : List W) : List W := (ws.zip us).map fun p => .tup [p.1, p.2]
theorem zipW_at (ws us : List W) (i : Nat) : (zipW ws us)[i]? = match ws[i]?, us[i]? with | some w, some u => some (.tup [w, u]) | _, _ => none := by
  unfold zipW
  rw [List.getElem?_map, List.zip, List.getElem?_zipWith]
  cases ws[i]? <;> cases us[i]? <;> rfl
theorem zipW_len {ws us : List W} (e : ws.length = us.length) : (zipW ws us).length = ws.length := by
  unfold zipW
  rw [List.length_map, List.length_zip, ← e, Nat.min_self]
theorem srcZ_at {a b : W} {ws us : List W} {h : Hpe} (ea : rdS a h = some ws) (eb : rdS b h = some us) (i : Nat) : srcZ a b h i = some (zipW ws us)[i]? := by
  unfold srcZ
  rw [ea, eb, zipW_at]
  dsimp only
  cases ws[i]? <;> cases us[i]? <;> rfl
theorem bools_rep (b : Bool) : ∀ n : Nat, bools (List.replicate n (.bl b)) = some (List.replicate n b)
  | 0 => rfl
  | n + 1 => by
    rw [List.replicate_succ, List.replicate_succ]
    show (match bools (List.replicate n (.bl b)) with | some bs => some (b :: bs) | none => none) = _
    rw [bools_rep b n]
theorem w_all {f : List Bool → Bool} {n : Nat} {bs : List Bool} {ws : List W} {h : Hpe} {Q : W → Hpe → Prop} {E : Exc → Hpe → Prop} (g : h.get n = some (.lst ws)) (e : bools ws = some bs) (q : Q (.bl (f bs)) h) : (bAllAny f [.ref n] h).Wp Q E := by
  unfold bAllAny
  dsimp only
  rw [rdL_of g]
  dsimp only
  rw [e]
  exact q
def bdS : Nat → Nat → Nat
  | 0, _ => 0
  | d + 1, n => 1 + n * bdS d n
abbrev noM : Nat → Prop := fun _ => False
section
variable {g : List W → Hpe → Res W} {d n : Nat} {B : Nat → Prop}
theorem noRefs_at : ∀ {ws : List W} {i : Nat} {w : W}, noRefs ws = true → ws[i]? = some w → noRef w = true
  | [], _, _, _, e => by simp at e
  | v :: ws, 0, w, d, e => by
    simp at e
    subst e
    rw [noRefs_c] at d
    cases q : noRef v <;> rw [q] at d <;> first | rfl | cases d
  | v :: ws, i + 1, w, d, e => by
    rw [noRefs_c] at d
    refine noRefs_at (ws := ws) (i := i) ?_ (by simpa using e)
    cases q : noRef v <;> rw [q] at d <;> first | exact d | cases d
theorem same_rows (IH : ∀ (w u : W) (h : Hpe), Sm h B d n w u → h.nx + bdS d n < 1000000000 → h.lk = [] → ∃ h', g [w, u] h = .ok (.bl true) h' ∧ Gr noM (bdS d n) h h') {h : Hpe} {a b : W} {ws us : List W} (ρ : Rho) (eρ : ρ = [some a, some b, none, none]) (ea : ∀ h', Gr noM 1000000000 h h' → rdS a h' = some ws) (eb : ∀ h', Gr noM 1000000000 h h' → rdS b h' = some us)
    (ec : (iOr (ltR (aC (eV 0) (aC (eV 1) aN))) (iZMf (aC (eV 0) (aC (eV 1) aN))) (iZ (aC (eV 0) (aC (eV 1) aN)))) ρ h = .ok (srcZ a b) h)
    (e : ws.length = us.length) (l : ws.length ≤ n) (hn : n ≤ 10000) (s : ∀ (i : Nat) (w u : W), ws[i]? = some w → us[i]? = some u → Sm h B d n w u) (nx : h.nx + bdS (d + 1) n < 1000000000) (lk : h.lk = []) :
    (eComp (.lst []) (iOr (ltR (aC (eV 0) (aC (eV 1) aN))) (iZMf (aC (eV 0) (aC (eV 1) aN))) (iZ (aC (eV 0) (aC (eV 1) aN)))) (gTL 2 (gsC (gN 2) (gsC (gN 3) gsN))) tYs (moreL (eCl 2 g (aC (eV 2) (aC (eV 3) aN)))) [2, 3] ρ h).Wp (fun w h1 => (bAllAny (fun bs => bs.all id) [w] h1).Wp (fun r h' => r = .bl true ∧ Gr noM (bdS (d + 1) n) h h') (fun _ _ => False)) (fun _ _ => False) := by
  have b1 : bdS (d + 1) n = 1 + n * bdS d n := rfl
  refine w_compL (zipW ws us) (fun k i ys h' => k = h.nx ∧ k < h'.nx ∧ i ≤ ws.length ∧ h'.get k = some (.lst ys) ∧ ys = List.replicate i (.bl true) ∧ Gr noM (1 + i * bdS d n) h h') (by rw [zipW_len e]; omega) ?_ ?_ ?_
  · rw [ec, wp_ok]
    refine ⟨⟨by omega, rfl, Nat.lt_succ_self _, Nat.zero_le _, new_get _ (by omega), rfl, by rw [Nat.zero_mul]; exact Gr.new _⟩, ?_⟩
    rintro k i ys h' ⟨_, _, li, _, _, gr⟩
    have q : i * bdS d n ≤ n * bdS d n := Nat.mul_le_mul_right _ (by omega)
    exact srcZ_at (ea h' (gr.mono (by omega) (fun _ _ z => z))) (eb h' (gr.mono (by omega) (fun _ _ z => z))) i
  · rintro k i p ys h' ep ⟨rfl, kn, li, gk, rfl, gr⟩ _
    rw [zipW_at] at ep
    cases e1 : ws[i]? with
    | none => rw [e1] at ep; cases ep
    | some w =>
      cases e2 : us[i]? with
      | none => rw [e1, e2] at ep; cases ep
      | some u =>
        rw [e1, e2] at ep
        cases ep
        have hi := (List.getElem?_eq_some_iff.mp e1).1
        have q : (i + 1) * bdS d n ≤ n * bdS d n := Nat.mul_le_mul_right _ (by omega)
        have q1 : (i + 1) * bdS d n = i * bdS d n + bdS d n := Nat.succ_mul _ _
        have z := gr.lt
        obtain ⟨h2, e3, g3⟩ := IH w u h' ((s i w u e1 e2).mono (fun j hj _ => gr.old j hj (fun z => z)) gr.le (Nat.le_refl _) (Nat.le_refl _)) (by omega) (gr.lk.trans lk)
        have g2 : h2.get h.nx = some (.lst (List.replicate i (.bl true))) := (g3.old _ kn (fun z => z)).trans gk
        rw [w_gT2, eρ]
        w_up
        have kn2 : h.nx < h2.nx := Nat.lt_of_lt_of_le kn g3.le
        refine ⟨(s i w u e1 e2).nc.1, (s i w u e1 e2).nc.2, wp_eq e3 ?_⟩
        refine ⟨g2, kn2, by omega, by rw [get_set (by omega), if_pos rfl], by rw [List.replicate_succ'], ?_⟩
        have g4 := (gr.trans g3)
        refine ⟨g4.le, by have := g4.lt; show h2.nx ≤ _; omega, fun j hj m => ?_, g4.lk⟩
        rw [get_set (by have := g4.lt; omega), if_neg (by omega)]
        exact g4.old j hj m
  · rintro k ys h' ⟨rfl, kn, li, gk, rfl, gr⟩
    refine w_all gk (bools_rep true _) ⟨?_, ?_⟩
    · rw [zipW_len e]
      congr 1
      simp
    · rw [zipW_len e] at gr
      refine gr.mono ?_ (fun _ _ z => z)
      have q : ws.length * bdS d n ≤ n * bdS d n := Nat.mul_le_mul_right _ l
      omega
theorem same_body (IH : ∀ (w u : W) (h : Hpe), Sm h B d n w u → h.nx + bdS d n < 1000000000 → h.lk = [] → ∃ h', g [w, u] h = .ok (.bl true) h' ∧ Gr noM (bdS d n) h h') (w u : W) (h : Hpe) (hn : n ≤ 10000) (s : Sm h B (d + 1) n w u) (nx : h.nx + bdS (d + 1) n < 1000000000) (lk : h.lk = []) :
    (runB 4 (uSame g) [w, u] h).Wp (fun r h' => r = .bl true ∧ Gr noM (bdS (d + 1) n) h h') (fun _ _ => False) := by
  refine run_wp ?_
  show (uSame g [some w, some u, none, none] h).Wp _
  unfold uSame
  cases s with
  | non =>
    w_up
    exact Gr.refl
  | bl b =>
    w_up
    exact Gr.refl
  | int i =>
    w_up
    exact Gr.refl
  | str s l =>
    w_up
    refine wp_eq (l h) ⟨true, rfl, ?_⟩
    w_up
    exact Gr.refl
  | @tup _ _ ws us e l s =>
    w_up
    simp only [len_t, wp_ok, e, qe_int, beq_self_eq_true, Bool.bne_true, Bool.not_false, W.bl.injEq, exists_eq_left', if_true, Bool.false_bne]
    exact same_rows IH (a := .tup ws) (b := .tup us) _ rfl (fun _ _ => rfl) (fun _ _ => rfl) rfl e l hn s nx lk
  | @lst _ _ i j ws us g1 g2 hi hj _ _ e l s =>
    simp only [w_seq, w_if, w_asT, w_eIs2, w_v, List.getElem?_cons_zero, List.getElem?_cons_succ, Option.some.injEq, exists_eq_left', nc_ref, true_and, iw_lst g1, iw_lst g2]
    w_up
    simp only [iw_lst g1, iw_lst g2, Option.some.injEq, exists_eq_left', beq_self_eq_true, Bool.not_true, Bool.false_eq_true, if_false, Bool.not_false, len_l g1, len_l g2, wp_ok, e, qe_int, W.bl.injEq, if_true, Bool.false_bne, bne_self_eq_false]
    refine same_rows IH (a := .ref i) (b := .ref j) _ rfl (fun h' gr => ?_) (fun h' gr => ?_) ?_ e l hn s nx lk
    · exact rdL_of ((gr.old _ hi (fun z => z)).trans g1)
    · exact rdL_of ((gr.old _ hj (fun z => z)).trans g2)
    · show (match rdL h i, rdL h j with | some _, some _ => Res.ok (srcZ (.ref i) (.ref j)) h | _, _ => .no) = _
      rw [rdL_of g1, rdL_of g2]
theorem Sm.nil {h : Hpe} {B : Nat → Prop} : ∀ {d n : Nat} {w u : W}, noRef w = true → noRef u = true → Sm h B d n w u → Sm Hpe.nil B d n w u := by
  intro d
  induction d with
  | zero => intro n w u _ _ s; cases s
  | succ d ih =>
    intro n w u na nb s
    cases s with
    | non => exact .non
    | bl b => exact .bl b
    | int i => exact .int i
    | str s l => exact .str s l
    | tup e l s => exact .tup e l fun i w u p q => ih (noRefs_at na p) (noRefs_at nb q) (s i w u p q)
    | lst g g' hi hj _ _ e l s => cases na
theorem same_ok {C : Nat → List W → Hpe → Res W} (hC : ∀ d ws h, C (d + 1) ws h = frm (runB 4 (uSame (C d))) ws h) {B : Nat → Prop} {n : Nat} (hn : n ≤ 10000) : ∀ (d : Nat) (w u : W) (h : Hpe), Sm h B d n w u → h.nx + bdS d n < 1000000000 → h.lk = [] → ∀ d', d ≤ d' → ∃ h', C d' [w, u] h = .ok (.bl true) h' ∧ Gr noM (bdS d n) h h' := by
  intro d
  induction d with
  | zero => intro w u h s; cases s
  | succ d ih =>
    intro w u h s nx lk d' hd
    obtain ⟨e, rfl⟩ : ∃ e, d' = e + 1 := ⟨d' - 1, by omega⟩
    rw [hC]
    cases c : noRefs [w, u] with
    | true =>
      have c1 : noRef w = true ∧ noRef u = true := by
        rw [noRefs_c, noRefs_c] at c
        cases q : noRef w <;> cases q' : noRef u <;> rw [q, q'] at c <;> first | exact ⟨rfl, rfl⟩ | cases c
      have b := same_body (g := C e) (fun w u h s nx lk => ih w u h s nx lk e (by omega)) w u Hpe.nil hn (s.nil c1.1 c1.2) (by show 0 + _ < _; omega) rfl
      exact ⟨h, frm_is c rfl (b.mono (fun _ _ q => q.1) (fun _ _ q => q)) h, Gr.refl⟩
    | false =>
      have b := same_body (g := C e) (fun w u h s nx lk => ih w u h s nx lk e (by omega)) w u h hn s nx lk
      unfold frm
      rw [c]
      show ∃ h', runB 4 (uSame (C e)) [w, u] h = _ ∧ _
      cases q : runB 4 (uSame (C e)) [w, u] h with
      | ok r h' =>
        rw [q] at b
        obtain ⟨rfl, gr⟩ := b
        exact ⟨h', rfl, gr⟩
      | ex x h' => rw [q] at b; exact b.elim
      | no => rw [q] at b; exact b.elim
end
end
end EV
namespace EV
open PySem PySem.Spec PyProof.Rows L2
section
variable {h : Hpe} {Q : W → Hpe → Prop} {E : Exc → Hpe → Prop} {i j : Int} {ws us : List W} {n : Nat}
theorem o_gI {c : Int → Int → Bool} {g : Int → Int → Int} : (gI c g (.int i) (.int j) h).Wp Q E = (c i j = true ∧ Q (.int (g i j)) h) := by
  show (bif c i j then Res.ok (W.int (g i j)) h else .no).Wp Q E = _
  rw [wp_cond, wp_ok, wp_no]
  cases c i j <;> simp
theorem o_gI0 {g : Int → Int → Int} : gI0 g (.int i) (.int j) h = .ok (.int (g i j)) h := rfl
theorem o_gB0 {g : Int → Int → Bool} : gB0 g (.int i) (.int j) h = .ok (.bl (g i j)) h := rfl
theorem o_mulI : (gMul (.int i) (.int j) h).Wp Q E = (cMul i j = true ∧ Q (.int (i * j)) h) := by
  show (bif cMul i j then Res.ok (W.int (i * j)) h else .no).Wp Q E = _
  rw [wp_cond, wp_ok, wp_no]
  cases cMul i j <;> simp
theorem o_mulT : (gMul (.tup ws) (.int j) h).Wp Q E = (cM j ws.length = true ∧ Q (.tup (List.replicate j.toNat ws).flatten) h) := by
  show (bif cM j ws.length then Res.ok (W.tup (List.replicate j.toNat ws).flatten) h else .no).Wp Q E = _
  rw [wp_cond, wp_ok, wp_no]
  cases cM j ws.length <;> simp
theorem cM_of (a : -1000000 ≤ j) (b : j ≤ 1000) (c : n ≤ 1000) : cM j n = true := by
  unfold cM
  rw [decide_eq_true a, decide_eq_true b, Nat.ble_eq_true_of_le c]
  rfl
theorem cDiv_of (a : 0 < j) (b : j < 1073741824) : cDiv i j = true := by
  unfold cDiv
  rw [decide_eq_true a, decide_eq_true b]
  rfl
theorem cMul_R (a : -18446744073709551616 < j) (b : j < 18446744073709551616) : cMul i j = true := by
  unfold cMul
  rw [decide_eq_true a, decide_eq_true b]
  simp
theorem cR_of (a : -1000000 ≤ i) (b : i ≤ 1000000) : cR i = true := by
  unfold cR
  rw [decide_eq_true a, decide_eq_true b]
  rfl
def slW : W → Option Int → Option Int → Hpe → Res W
  | .tup ws, lo, hi, h => .ok (.tup (cutW ws lo hi)) h
  | .ref n, lo, hi, h => match rdL h n with
    | some ws => h.al (.lst (cutW ws lo hi))
    | none => .no
  | _, _, _, _ => .no
theorem w_sl {f : FE} {fl fh : FO} {ρ : Rho} : (eSl f fl fh ρ h).Wp Q E = (f ρ h).Wp (fun w h1 => (fl ρ h1).Wp (fun lo h2 => (fh ρ h2).Wp (fun hi h3 => (slW w lo hi h3).Wp Q E) E) E) E := by
  unfold eSl
  rw [wp_bind]
  simp only [wp_bind]
  congr 1
  funext w h1
  congr 1
  funext lo h2
  congr 1
  funext hi h3
  cases w <;> rfl
theorem w_iR1 {fs : FA} {ρ : Rho} {Q : Src → Hpe → Prop} : (iR1 fs ρ h).Wp Q E = (fs ρ h).Wp (fun ws h => ∃ j, ws = [.int j] ∧ cR j = true ∧ Q (srcR 0 j.toNat) h) E := by
  unfold iR1
  rw [wp_bind]
  congr 1
  funext ws h
  match ws with
  | [.int j] =>
    dsimp only
    rw [wp_cond]
    apply propext
    constructor
    · intro q
      cases c : cR j with
      | true => rw [c] at q; exact ⟨j, rfl, c, q⟩
      | false => rw [c] at q; exact q.elim
    · rintro ⟨j', e, c, q⟩
      cases e
      rw [c]
      exact q
  | [] => exact propext ⟨fun q => q.elim, fun ⟨_, e, _⟩ => by cases e⟩
  | [.non] => exact propext ⟨fun q => q.elim, fun ⟨_, e, _⟩ => by cases e⟩
  | [.bl _] => exact propext ⟨fun q => q.elim, fun ⟨_, e, _⟩ => by cases e⟩
  | [.str _] => exact propext ⟨fun q => q.elim, fun ⟨_, e, _⟩ => by cases e⟩
  | [.tup _] => exact propext ⟨fun q => q.elim, fun ⟨_, e, _⟩ => by cases e⟩
  | [.ref _] => exact propext ⟨fun q => q.elim, fun ⟨_, e, _⟩ => by cases e⟩
  | [.df _] => exact propext ⟨fun q => q.elim, fun ⟨_, e, _⟩ => by cases e⟩
  | [.clo _ _] => exact propext ⟨fun q => q.elim, fun ⟨_, e, _⟩ => by cases e⟩
  | a :: b :: r => exact propext ⟨fun q => by cases a <;> exact q.elim, fun ⟨_, e, _⟩ => by cases e⟩
end
def wd (l : List Int) : W := .tup (l.map .int)
section
variable {l m : List Int} {h : Hpe} {n : Nat} {Q : W → Hpe → Prop} {E : Exc → Hpe → Prop}
theorem wd_dat (l : List Int) : dat (wd l) = true := by
  unfold wd
  show dats (l.map .int) = true
  induction l with
  | nil => rfl
  | cons x l ih => exact ih
theorem wd_tn (l : List Int) : tn (wd l) = l.length + 1 := by
  unfold wd
  show tns (l.map .int) + 1 = _
  congr 1
  induction l with
  | nil => rfl
  | cons x l ih =>
    show 1 + tns (l.map .int) = l.length + 1
    rw [ih, Nat.add_comm]
theorem wd_nr (l : List Int) : noRef (wd l) = true := by
  unfold wd
  rw [noRef_t]
  induction l with
  | nil => rfl
  | cons x l ih => exact ih
theorem map_toD : ∀ l : List Int, mapO (toD 69 h) (l.map .int) = some (l.map PyData.int)
  | [] => rfl
  | x :: l => by
    have e : toD 69 h (.int x) = some (.int x) := rfl
    rw [List.map_cons, mapO, e, map_toD l]
    rfl
theorem lay_int : ∀ l : List Int, PyData.canLayAll0 (l.map PyData.int) = true
  | [] => by simp [PyData.canLayAll0]
  | x :: l => by simp [PyData.canLayAll0, PyData.canLay0, lay_int l]
theorem dep_int : ∀ l : List Int, PyData.depthAll (l.map PyData.int) = 0
  | [] => by simp [PyData.depthAll]
  | x :: l => by simp [PyData.depthAll, PyData.depth, dep_int l]
theorem sh_int (l : List Int) : SeqAt.shaped (.tuple (l.map PyData.int)) = true := by
  unfold SeqAt.shaped
  simp [PyData.canLay0, PyData.depth, lay_int l, dep_int l]
theorem eqv_int : ∀ l m : List Int, PyData.eqvAll (l.map PyData.int) (m.map PyData.int) = (l == m)
  | [], [] => by simp [PyData.eqvAll]
  | [], _ :: _ => by simp [PyData.eqvAll]
  | _ :: _, [] => by simp [PyData.eqvAll]
  | x :: l, y :: m => by
    simp only [List.map_cons, PyData.eqvAll, PyData.eqv, eqv_int l m]
    rfl
theorem qe_wd {b : Bool} : gEq b (wd l) (wd m) h = .ok (.bl (b != (l == m))) h := by
  unfold gEq wd
  show (match (match mapO (toD 69 h) (l.map .int) with | none => none | some ds => some (PyData.tuple ds)), (match mapO (toD 69 h) (m.map .int) with | none => none | some ds => some (PyData.tuple ds)) with
    | some d, some e => bif SeqAt.shaped d && SeqAt.shaped e then Res.ok (W.bl (b != PyData.eqv d e)) h else .no
    | _, _ => .no) = _
  rw [map_toD, map_toD]
  dsimp only
  rw [sh_int, sh_int]
  show Res.ok (W.bl (b != PyData.eqv _ _)) h = _
  simp only [PyData.eqv, eqv_int]
theorem cut_map2 (l : List Int) (lo hi : Option Int) : cutW (l.map W.int) lo hi = (((l.drop (HT.sIx l.length 0 lo)).take (HT.sIx l.length l.length hi - HT.sIx l.length 0 lo))).map W.int := by
  unfold cutW
  rw [List.length_map, List.map_take, List.map_drop]
theorem cut_to (l : List Int) (k : Int) (h : 0 ≤ k) : cutW (l.map W.int) none (some k) = (l.take k.toNat).map W.int := by
  rw [cut_map2]
  congr 1
  obtain ⟨m, rfl⟩ : ∃ m : Nat, k = m := ⟨k.toNat, by omega⟩
  rw [HT.sIx_nat, HT.sIx_none, List.drop_zero, Nat.sub_zero, Int.toNat_natCast]
  rcases Nat.le_total m l.length with q | q
  · rw [Nat.min_eq_left q]
  · rw [Nat.min_eq_right q, List.take_of_length_le (Nat.le_refl _), List.take_of_length_le q]
theorem cut_from (l : List Int) (k : Int) (h : 0 ≤ k) : cutW (l.map W.int) (some k) none = (l.drop k.toNat).map W.int := by
  rw [cut_map2]
  congr 1
  obtain ⟨m, rfl⟩ : ∃ m : Nat, k = m := ⟨k.toNat, by omega⟩
  rw [HT.sIx_nat, HT.sIx_none, Int.toNat_natCast]
  rcases Nat.le_total m l.length with q | q
  · rw [Nat.min_eq_left q, List.take_of_length_le (by rw [List.length_drop]; omega)]
  · rw [Nat.min_eq_right q, Nat.sub_self, List.take_zero, List.drop_of_length_le q]
theorem cut_mid (l : List Int) (k j : Int) (h : 0 ≤ k) (h2 : k ≤ j) : cutW (l.map W.int) (some k) (some j) = ((l.drop k.toNat).take (j - k).toNat).map W.int := by
  rw [cut_map2]
  congr 1
  obtain ⟨m, rfl⟩ : ∃ m : Nat, k = m := ⟨k.toNat, by omega⟩
  obtain ⟨p, rfl⟩ : ∃ p : Nat, j = p := ⟨j.toNat, by omega⟩
  rw [HT.sIx_nat, HT.sIx_nat, Int.toNat_natCast, show ((p : Int) - (m : Int)).toNat = p - m by omega]
  rcases Nat.le_total m l.length with q | q
  · rw [Nat.min_eq_left q]
    rcases Nat.le_total p l.length with q' | q'
    · rw [Nat.min_eq_left q']
    · rw [Nat.min_eq_right q', List.take_of_length_le (by rw [List.length_drop]; omega), List.take_of_length_le (by rw [List.length_drop]; omega)]
  · rw [Nat.min_eq_right q, List.drop_of_length_le (Nat.le_refl _), List.drop_of_length_le q, List.take_nil, List.take_nil]
def rep (l : List Int) (k : Nat) : List Int := (List.replicate k l).flatten
theorem rep_map (l : List Int) (k : Nat) : (List.replicate k (l.map W.int)).flatten = (rep l k).map W.int := by
  unfold rep
  rw [List.map_flatten, List.map_replicate]
theorem rep_len (l : List Int) (k : Nat) : (rep l k).length = k * l.length := flat_len l k
theorem ix_wd {i : Int} {x : Int} (h0 : 0 ≤ i) (e : l[i.toNat]? = some x) : gIx2 (wd l) (.int i) h = .ok (.int x) h := by
  refine ix_t ?_
  obtain ⟨m, rfl⟩ : ∃ m : Nat, i = m := ⟨i.toNat, by omega⟩
  refine atI_n ?_
  rw [List.getElem?_map, show m = ((m : Int)).toNat by omega, e]
  rfl
theorem len_wd : bLen3 [wd l] h = .ok (.int (l.length : Nat)) h := by
  show Res.ok (W.int ((l.map W.int).length : Nat)) h = _
  rw [List.length_map]
end
section
variable {l m : List Int} {h : Hpe} {n : Nat} {j : Int} {Q : W → Hpe → Prop} {E : Exc → Hpe → Prop}
theorem wd_fold : W.tup (l.map W.int) = wd l := rfl
theorem nc_wd : noClo (wd l) = true := rfl
theorem tr_wd : truW (wd l) h = some (!l.isEmpty) := by cases l <;> rfl
theorem sl_wd {lo hi : Option Int} : slW (wd l) lo hi h = .ok (.tup (cutW (l.map W.int) lo hi)) h := rfl
theorem cut_toN {k : Nat} : cutW (l.map W.int) none (some (k : Int)) = (l.take k).map W.int := by
  rw [cut_to l k (by omega), Int.toNat_natCast]
theorem cut_frN {k : Nat} : cutW (l.map W.int) (some (k : Int)) none = (l.drop k).map W.int := by
  rw [cut_from l k (by omega), Int.toNat_natCast]
theorem o_mulW : (gMul (wd l) (.int j) h).Wp Q E = (cM j l.length = true ∧ Q (wd (rep l j.toNat)) h) := by
  unfold wd
  rw [o_mulT, rep_map, List.length_map]
theorem o_addW : (gAdd (wd l) (wd m) h).Wp Q E = (l.length + m.length ≤ 100000 ∧ Q (wd (l ++ m)) h) := by
  unfold wd
  rw [add_tt, ← List.map_append, List.length_map, List.length_map]
end
section
variable {T : Nat → List W → Hpe → Res W} {kt : Nat} {h : Hpe} {n : Nat} {c low : Int} {Q : W → Hpe → Prop} {E : Exc → Hpe → Prop}
theorem w_take (et : T kt = runB 6 uTake) (u : UrnAt h n c) (hn : n < 100000000) (l0 : 0 < low) (l1 : low < 1073741824) (hc : c < 1000000000)
    (q : ∀ (t : Int) (h' : Hpe), 0 ≤ t → t < low → UrnAt h' n (c + 1) → Gr (· = n) 0 h h' → Q (.int t) h') : (T kt [.ref n, .int low] h).Wp Q E := by
  obtain ⟨x, y, c', g, c0, c1⟩ := u
  obtain ⟨t, x', c2, t0, t1, q0, q1, e⟩ := take_ok g (by omega) l0 l1 c0 (by omega)
  rw [et, e]
  refine q t _ t0 t1 ⟨x', y, c2, set_get _ (by omega), by omega, by omega⟩ ⟨Nat.le_refl _, Nat.le_refl _, fun i _ m => set_old _ m, rfl⟩
end
theorem run_eq {n : Nat} {f : FS} {ws : List W} {h : Hpe} {Q : W → Hpe → Prop} {E : Exc → Hpe → Prop} : (runB n f ws h).Wp Q E = (f (ws.map some ++ List.replicate (n - ws.length) none) h).Wp ⟨fun _ h => Q .non h, Q, fun _ _ => False, fun _ _ => False, fun x _ h => E x h⟩ := by
  unfold runB
  cases q : f (ws.map some ++ List.replicate (n - ws.length) none) h <;> rfl
end EV
namespace EV
open PySem PySem.Spec PyProof.Rows L2
section
variable {h : Hpe} {ρ : Rho} {E : Exc → Hpe → Prop} {Q : W → Hpe → Prop} {fi : FI} {g : FG} {t : FT} {fe : FE} {vs : List Nat}
theorem w_iR2e {fs : FA} {Q : Src → Hpe → Prop} : (iR2 fs ρ h).Wp Q E = (fs ρ h).Wp (fun ws h => ws.length = 2 ∧ ∃ a, ws[0]? = some a ∧ ∃ b, ws[1]? = some b ∧ ∃ i, a = .int i ∧ ∃ j, b = .int j ∧ cR i = true ∧ cR j = true ∧ Q (srcR i (j - i).toNat) h) E := by
  unfold iR2
  rw [wp_bind]
  congr 1
  funext ws h
  apply propext
  constructor
  · intro q
    match ws, q with
    | [.int i, .int j], q =>
      dsimp only at q
      rw [wp_cond] at q
      cases c : cR i && cR j with
      | true =>
        rw [c] at q
        obtain ⟨c1, c2⟩ := (Bool.and_eq_true _ _).mp c
        exact ⟨rfl, _, rfl, _, rfl, i, rfl, j, rfl, c1, c2, q⟩
      | false => rw [c] at q; exact q.elim
  · rintro ⟨e1, a, ea, b, eb, i, ei, j, ej, c1, c2, q⟩
    match ws, e1 with
    | [x, y], _ =>
      cases ea
      cases eb
      subst ei ej
      dsimp only
      rw [c1, c2]
      exact q
theorem w_lcP (xs ys : List W) (hl : xs.length < 100000) (ly : ys.length = xs.length) (nx : h.nx < 1099511627776)
    (h0 : (fi ρ h).Wp (fun src h1 => h1 = h ∧ ∀ i, src h i = some xs[i]?) E)
    (step : ∀ (i : Nat) (w y : W), xs[i]? = some w → ys[i]? = some y → (g w (wipeR ρ vs) h).Wp ⟨fun ρ' h1 => (fe ρ' h1).Wp (fun z h2 => z = y ∧ h2 = h) (fun _ _ => False), fun _ _ => False, fun _ _ => False, fun _ _ => False, fun _ _ _ => False⟩)
    (fin : Q (.ref h.nx) (h.new (.lst ys))) : (eLc fi g tYs fe vs ρ h).Wp Q E := by
  refine w_lc xs (fun i zs h1 => i ≤ xs.length ∧ zs = ys.take i ∧ h1 = h) hl (h0.mono (fun src h1 ⟨a, b⟩ => ?_) (fun _ _ q => q)) ?_ ?_
  · subst a
    refine ⟨⟨Nat.zero_le _, by rw [List.take_zero], rfl⟩, ?_⟩
    rintro i zs h2 ⟨_, _, rfl⟩
    exact b i
  · rintro i w zs h1 ew ⟨hi, rfl, rfl⟩
    have lt := (List.getElem?_eq_some_iff.mp ew).1
    have ey : ys[i]? = some ys[i] := List.getElem?_eq_getElem (by omega)
    refine (step i w _ ew ey).mono (fun ρ' h2 q => ?_) (fun _ _ q => q) (fun _ _ q => q) (fun _ _ q => q) (fun _ _ _ q => q)
    show (fe ρ' h2).Wp _ _
    refine Res.Wp.mono q (fun z h3 ⟨e1, e2⟩ => ?_) (fun _ _ q => q)
    subst e1
    refine ⟨by omega, ?_, e2⟩
    rw [List.take_add_one, ey]
    rfl
  · rintro zs h1 ⟨_, rfl, rfl⟩
    rw [← ly, List.take_length]
    exact ⟨nx, fin⟩
theorem bools_map {c : Nat → Bool} : ∀ l : List Nat, bools (l.map fun k => W.bl (c k)) = some (l.map c)
  | [] => rfl
  | k :: l => by
    rw [List.map_cons]
    show (match bools (l.map fun k => W.bl (c k)) with | some bs => some (c k :: bs) | none => none) = _
    rw [bools_map l]
    rfl
theorem w_allR {fi : FI} (n : Nat) (c : Nat → Bool) (hn : n < 100000) (nx : h.nx < 1000000000) (h0 : (fi ρ h).Wp (fun src h1 => h1 = h ∧ ∀ i, src h i = some (rngW 0 n)[i]?) E)
    (step : ∀ k : Nat, k < n → (g (.int (k : Int)) (wipeR ρ vs) h).Wp ⟨fun ρ' h1 => (fe ρ' h1).Wp (fun z h2 => z = .bl (c k) ∧ h2 = h) (fun _ _ => False), fun _ _ => False, fun _ _ => False, fun _ _ => False, fun _ _ _ => False⟩)
    (fin : ∀ h', Gr noM 1 h h' → Q (.bl ((List.range n).all c)) h') :
    (eLc fi g tYs fe vs ρ h).Wp (fun w h1 => (bAllAny (fun bs => bs.all id) [w] h1).Wp Q E) E := by
  refine w_lcP (rngW 0 n) ((List.range n).map fun k => W.bl (c k)) (by rw [rngW_len]; exact hn) (by rw [rngW_len, List.length_map, List.length_range]) (by omega) h0 ?_ ?_
  · intro i w y ew ey
    rw [rngW_at] at ew
    by_cases hi : i < n
    · rw [if_pos hi] at ew
      cases ew
      rw [List.getElem?_map, List.getElem?_range hi] at ey
      cases ey
      rw [show (0 : Int) + (i : Int) = (i : Int) by omega]
      exact step i hi
    · rw [if_neg hi] at ew; cases ew
  · refine w_all (new_get _ (by omega)) (bools_map _) ?_
    rw [List.all_map]
    exact fin _ (Gr.new _)
theorem all_iff {n : Nat} {c : Nat → Bool} : (List.range n).all c = true ↔ ∀ k, k < n → c k = true := by
  rw [List.all_eq_true]
  exact ⟨fun a k hk => a k (List.mem_range.mpr hk), fun a k hk => a k (List.mem_range.mp hk)⟩
end
end EV
namespace L02
open PySem EV
section
local macro_rules | `(tactic| w_up) => `(tactic| simp only [w_seq, w_nil, w_rt, w_rtN, w_ex, w_as, w_if, w_par, w_rs, w_v, w_k, w_aN, w_aC, w_e2, w_tup, w_lst, w_cl, w_cl0, w_bl, w_asB, w_asT, w_tNt, w_tAn, w_tOr, w_tYs, w_eIf, w_eAn, w_eNtT, w_eOrT, w_oS, w_oN, w_eIs, w_eIs2, w_mt, w_mt0, wp_ok, wp_exc, List.getElem?_cons_zero, List.getElem?_cons_succ, List.set_cons_zero, List.set_cons_succ, Option.some.injEq, exists_eq_left', nc_int, nc_bl, nc_tup, nc_ref, nc_non, nc_str, true_and, and_true, List.length_cons, List.length_nil, List.map_cons, List.map_nil, W.bl.injEq, W.int.injEq, Bool.not_true, Bool.not_false, Bool.false_eq_true, if_true, if_false, iw_tup, iw_int, iw_bl, iw_str, iw_non, tr_bl, tr_int, tr_tup, tr_non, Bool.or_true, Bool.or_false, Bool.true_or, wipeR, qe_bl, qe_int, qe_non, isN_f, isN_t, beq_self_eq_true, bne_self_eq_false, Bool.false_bne, Bool.true_bne, o_gI, o_gI0, o_gB0, o_mulI, add_ii, o_mulW, o_addW, wd_fold, nc_wd, tr_wd, w_sl, sl_wd, cut_toN, cut_frN, qe_wd, len_wd])
theorem nr1 (l : List Int) : noRefs [wd l] = true := by rw [noRefs_c, wd_nr]; rfl
theorem nr2 (l m : List Int) : noRefs [wd l, wd m] = true := by rw [noRefs_c, noRefs_c, wd_nr, wd_nr]; rfl
theorem nri (l : List Int) (i : Int) : noRefs [wd l, .int i] = true := by rw [noRefs_c, wd_nr]; rfl
theorem nrii (l : List Int) (i j : Int) : noRefs [wd l, .int i, .int j] = true := by rw [noRefs_c, wd_nr]; rfl
theorem nriw (l m : List Int) (i : Int) : noRefs [wd l, .int i, wd m] = true := by rw [noRefs_c, noRefs_c, noRefs_c, wd_nr, wd_nr]; rfl
variable {d : Nat} {h : Hpe} {l m : List Int}
theorem b0 (T : Tab) : (bodies T).get 0 = frm (runB 9 (F_frozen T)) := rfl
theorem b1 (T : Tab) : (bodies T).get 1 = frm (runB 4 (F__holds_list T)) := rfl
theorem b2 (T : Tab) : (bodies T).get 2 = frm (runB 2 (F_word_power T)) := rfl
theorem b3 (T : Tab) : (bodies T).get 3 = frm (runB 3 (F_root_of T)) := rfl
theorem b4 (T : Tab) : (bodies T).get 4 = frm (runB 4 (F_commute T)) := rfl
theorem b5 (T : Tab) : (bodies T).get 5 = frm (runB 4 (F_common_root T)) := rfl
theorem b6 (T : Tab) : (bodies T).get 6 = frm (runB 4 (F_turned T)) := rfl
theorem b7 (T : Tab) : (bodies T).get 7 = frm (runB 6 (F_piece_of T)) := rfl
theorem b8 (T : Tab) : (bodies T).get 8 = frm (runB 4 (F_is_piece T)) := rfl
theorem b9 (T : Tab) : (bodies T).get 9 = frm (runB 5 (F_first_apart T)) := rfl
theorem b11 (T : Tab) : (bodies T).get 11 = runB 6 uTake := rfl
theorem b13 (T : Tab) : (bodies T).get 13 = frm (runB 4 (uSame (T 13))) := rfl
theorem b14 (T : Tab) : (bodies T).get 14 = runB 4 (F__law_word T) := rfl
theorem b15 (T : Tab) : (bodies T).get 15 = frm (runB 3 (F__law_root T)) := rfl
theorem b16 (T : Tab) : (bodies T).get 16 = runB 1 (F__law_common T) := rfl
theorem b17 (T : Tab) : (bodies T).get 17 = runB 20 (F__law_right T) := rfl
theorem hold (w : W) (a : dat w = true) (s : tn w < 90000) (r : noRef w = true) : callE (d + 1) 1 [w] h = .ok (.bl false) h := by
  rw [callE_at, b1]
  exact frm_is (by rw [noRefs_c, r]; rfl) rfl (hold_wp a s) h
theorem fz (w : W) (a : dat w = true) (s : tn w < 90000) (r : noRef w = true) (c : noClo w = true) : callE (d + 2) 0 [w] h = .ok w h := by
  rw [callE_at, b0]
  refine frm_is (by rw [noRefs_c, r]; rfl) r ?_ h
  refine run_wp ?_
  show (F_frozen (callE (d + 1)) [some w, none, none, none, none, none, none, none, none] Hpe.nil).Wp _
  unfold F_frozen
  w_up
  simp only [c, hold w a s r]
  w_up
theorem fzw (hl : l.length < 80000) : callE (d + 2) 0 [wd l] h = .ok (wd l) h := fz _ (wd_dat l) (by rw [wd_tn]; omega) (wd_nr l) rfl
theorem power (hl : l.length ≤ 1000) {k : Int} (k0 : 0 ≤ k) (k1 : k ≤ 1000) : callE (d + 3) 2 [wd l, .int k] h = .ok (wd (rep l k.toNat)) h := by
  rw [callE_at, b2]
  refine frm_is (nri l k) (wd_nr _) ?_ h
  refine run_wp ?_
  show (F_word_power (callE (d + 2)) [some (wd l), some (.int k)] Hpe.nil).Wp _
  unfold F_word_power
  w_up
  simp only [nc_wd, fzw (show l.length < 80000 by omega)]
  w_up
  exact cM_of (by omega) k1 hl
theorem comm (hl : l.length ≤ 1000) (hm : m.length ≤ 1000) : callE (d + 3) 4 [wd l, wd m] h = .ok (.bl (l ++ m == m ++ l)) h := by
  rw [callE_at, b4]
  refine frm_is (nr2 l m) rfl ?_ h
  refine run_wp ?_
  show (F_commute (callE (d + 2)) [some (wd l), some (wd m), none, none] Hpe.nil).Wp _
  unfold F_commute
  w_up
  simp only [nc_wd, fzw (show l.length < 80000 by omega), fzw (show m.length < 80000 by omega)]
  w_up
  exact ⟨by omega, by omega⟩
end
end L02
namespace L02
open PySem EV
def row (l : List Int) (k : Nat) : Int := l.getD (k % l.length) 0
theorem row_at {l : List Int} {k : Nat} (h : k < l.length) : l[k]? = some (row l k) := by
  unfold row
  rw [Nat.mod_eq_of_lt h, List.getD_eq_getElem?_getD, List.getElem?_eq_getElem h]
  rfl
theorem row_mod (l : List Int) (k : Nat) : row l (k % l.length) = row l k := by
  unfold row
  rw [Nat.mod_mod]
theorem row_add (l : List Int) (k : Nat) : row l (k + l.length) = row l k := by
  unfold row
  rw [Nat.add_mod_right]
theorem row_mul (l : List Int) (k : Nat) : ∀ j : Nat, row l (k + j * l.length) = row l k
  | 0 => by rw [Nat.zero_mul, Nat.add_zero]
  | j + 1 => by rw [Nat.succ_mul, ← Nat.add_assoc, row_add, row_mul l k j]
def cutR (f : Nat → Int) (n : Nat) : List Int := (List.range n).map f
theorem cutR_len (f : Nat → Int) (n : Nat) : (cutR f n).length = n := by unfold cutR; rw [List.length_map, List.length_range]
theorem cutR_at (f : Nat → Int) (n k : Nat) : (cutR f n)[k]? = if k < n then some (f k) else none := by
  unfold cutR
  rw [List.getElem?_map]
  by_cases c : k < n
  · rw [if_pos c, List.getElem?_range c]; rfl
  · rw [if_neg c, List.getElem?_eq_none (by rw [List.length_range]; omega)]; rfl
theorem eq_cutR {l : List Int} {f : Nat → Int} {n : Nat} (e : l.length = n) (h : ∀ k, k < n → l[k]? = some (f k)) : l = cutR f n := by
  apply List.ext_getElem?
  intro k
  rw [cutR_at]
  by_cases c : k < n
  · rw [if_pos c, h k c]
  · rw [if_neg c, List.getElem?_eq_none (by omega)]
theorem self_cutR (l : List Int) : l = cutR (row l) l.length := eq_cutR rfl fun _ h => row_at h
theorem cutR_congr {f g : Nat → Int} {n : Nat} (h : ∀ k, k < n → f k = g k) : cutR f n = cutR g n := by
  unfold cutR
  exact List.map_congr_left fun k hk => h k (List.mem_range.mp hk)
theorem cutR_inj {f g : Nat → Int} {n : Nat} (e : cutR f n = cutR g n) (k : Nat) (h : k < n) : f k = g k := by
  have q := congrArg (fun l : List Int => l[k]?) e
  simp only [cutR_at, if_pos h] at q
  exact Option.some.inj q
theorem take_cutR (f : Nat → Int) (n k : Nat) (h : k ≤ n) : (cutR f n).take k = cutR f k := by
  refine eq_cutR (by rw [List.length_take, cutR_len]; omega) fun j hj => ?_
  rw [List.getElem?_take, if_pos hj, cutR_at, if_pos (by omega)]
theorem drop_cutR (f : Nat → Int) (n k : Nat) : (cutR f n).drop k = cutR (fun j => f (k + j)) (n - k) := by
  refine eq_cutR (by rw [List.length_drop, cutR_len]) fun j hj => ?_
  rw [List.getElem?_drop, cutR_at, if_pos (by omega)]
theorem app_cutR (f g : Nat → Int) (a b : Nat) : cutR f a ++ cutR g b = cutR (fun k => if k < a then f k else g (k - a)) (a + b) := by
  refine eq_cutR (by rw [List.length_append, cutR_len, cutR_len]) fun k hk => ?_
  rw [List.getElem?_append, cutR_len]
  by_cases c : k < a
  · rw [if_pos c, cutR_at, if_pos c, if_pos c]
  · rw [if_neg c, cutR_at, if_pos (by omega), if_neg c]
theorem rep_row (l : List Int) : ∀ n : Nat, rep l n = cutR (row l) (n * l.length)
  | 0 => by rw [Nat.zero_mul]; rfl
  | n + 1 => by
    have e : rep l (n + 1) = l ++ rep l n := by unfold rep; rw [List.replicate_succ, List.flatten_cons]
    rw [e, rep_row l n]
    rw [show l ++ cutR (row l) (n * l.length) = cutR (row l) l.length ++ cutR (row l) (n * l.length) from congrArg (· ++ cutR (row l) (n * l.length)) (self_cutR l)]
    rw [app_cutR]
    rw [Nat.succ_mul, Nat.add_comm]
    refine cutR_congr fun k hk => ?_
    by_cases c : k < l.length
    · rw [if_pos c]
    · rw [if_neg c]
      have q := row_add l (k - l.length)
      rw [show k - l.length + l.length = k by omega] at q
      exact q.symm
theorem rep_at {l : List Int} {n k : Nat} (h : k < n * l.length) : (rep l n)[k]? = some (row l k) := by rw [rep_row, cutR_at, if_pos h]
theorem comm_rows {u v : List Int} (hu : u ≠ []) (hv : v ≠ []) (e : u ++ v = v ++ u) (k : Nat) : row u k = row v k := by
  have pu : 0 < u.length := List.length_pos_iff.mpr hu
  have pv : 0 < v.length := List.length_pos_iff.mpr hv
  have c1 : ∀ a : Nat, rep u a ++ v = v ++ rep u a := by
    intro a
    induction a with
    | zero => show [] ++ v = v ++ []; rw [List.nil_append, List.append_nil]
    | succ a ih =>
      have r : rep u (a + 1) = u ++ rep u a := by unfold rep; rw [List.replicate_succ, List.flatten_cons]
      rw [r, List.append_assoc, ih, ← List.append_assoc, e, List.append_assoc]
  have c2 : ∀ a b : Nat, rep u a ++ rep v b = rep v b ++ rep u a := by
    intro a b
    induction b with
    | zero => show rep u a ++ [] = [] ++ rep u a; rw [List.nil_append, List.append_nil]
    | succ b ih =>
      have r : rep v (b + 1) = v ++ rep v b := by unfold rep; rw [List.replicate_succ, List.flatten_cons]
      rw [r, ← List.append_assoc, c1, List.append_assoc, ih, List.append_assoc]
  have c3 := c2 v.length u.length
  have ln : (rep u v.length).length = (rep v u.length).length := by rw [rep_len, rep_len, Nat.mul_comm]
  have c4 := (List.append_inj c3 ln).1
  rw [rep_row, rep_row, Nat.mul_comm u.length v.length] at c4
  have pos : 0 < v.length * u.length := Nat.mul_pos pv pu
  have c5 := cutR_inj c4 (k % (v.length * u.length)) (Nat.mod_lt _ pos)
  have m1 : row u (k % (v.length * u.length)) = row u k := by
    rw [← row_mod u (k % _), Nat.mod_mod_of_dvd _ (Nat.dvd_mul_left _ _), row_mod]
  have m2 : row v (k % (v.length * u.length)) = row v k := by
    rw [← row_mod v (k % _), Nat.mod_mod_of_dvd _ (Nat.dvd_mul_right _ _), row_mod]
  rw [← m1, ← m2]
  exact c5
theorem rows_comm {u v : List Int} (h : ∀ k, k < u.length + v.length → row u k = row v k) : u ++ v = v ++ u := by
  have e1 : u ++ v = cutR (row u) (u.length + v.length) := by
    refine eq_cutR (by rw [List.length_append]) fun k hk => ?_
    rw [List.getElem?_append]
    by_cases c : k < u.length
    · rw [if_pos c, row_at c]
    · rw [if_neg c, row_at (by omega)]
      have q := row_add u (k - u.length)
      rw [show k - u.length + u.length = k by omega] at q
      rw [q, h _ (by omega)]
  have e2 : v ++ u = cutR (row v) (u.length + v.length) := by
    refine eq_cutR (by rw [List.length_append, Nat.add_comm]) fun k hk => ?_
    rw [List.getElem?_append]
    by_cases c : k < v.length
    · rw [if_pos c, row_at c]
    · rw [if_neg c, row_at (by omega)]
      have q := row_add v (k - v.length)
      rw [show k - v.length + v.length = k by omega] at q
      rw [q, ← h _ (by omega)]
  rw [e1, e2]
  exact cutR_congr h
def okR (l : List Int) (s : Nat) : Prop := l.length % s = 0 ∧ ∀ k, k < l.length → row l k = row l (k % s)
structure IsRt (l : List Int) (r : Nat) : Prop where
  pos : 1 ≤ r
  le : r ≤ l.length
  ok : okR l r
  min : ∀ s, 1 ≤ s → s < r → ¬ okR l s
theorem exRt {l : List Int} (hl : l ≠ []) : ∃ r, IsRt l r := by
  have p : 0 < l.length := List.length_pos_iff.mpr hl
  have h0 : okR l l.length := ⟨Nat.mod_self _, fun k hk => by rw [Nat.mod_eq_of_lt hk]⟩
  have main : ∀ n : Nat, ∀ r, r ≤ n → 1 ≤ r → r ≤ l.length → okR l r → ∃ r, IsRt l r := by
    intro n
    induction n with
    | zero => intro r a b; omega
    | succ n ih =>
      intro r hr h1 hle ok
      by_cases c : ∃ s, 1 ≤ s ∧ s < r ∧ okR l s
      · obtain ⟨s, s1, s2, s3⟩ := c
        exact ih s (by omega) s1 (by omega) s3
      · exact ⟨r, h1, hle, ok, fun s a b z => c ⟨s, a, b, z⟩⟩
  exact main _ _ (Nat.le_refl _) p (Nat.le_refl _) h0
theorem mod_of_dvd_add {a s : Nat} (hs : 1 ≤ s) (h : a % s = 0) (k : Nat) : (k % a) % s = k % s := by
  obtain ⟨q, rfl⟩ : ∃ q, a = s * q := ⟨a / s, by have := Nat.div_add_mod a s; rw [h] at this; omega⟩
  exact Nat.mod_mul_right_mod _ _ _
theorem okR_row {l : List Int} {s : Nat} (hs : 1 ≤ s) (hl : l ≠ []) (ok : okR l s) (k : Nat) : row l k = row l (k % s) := by
  have p : 0 < l.length := List.length_pos_iff.mpr hl
  rw [← row_mod l k, ok.2 _ (Nat.mod_lt _ p), mod_of_dvd_add hs ok.1]
theorem IsRt.row {l : List Int} {r : Nat} (R : IsRt l r) (k : Nat) : L02.row (l.take r) k = L02.row l k := by
  have hl : l ≠ [] := by intro e; subst e; have := R.le; have := R.pos; simp at *; omega
  have ln : (l.take r).length = r := by rw [List.length_take]; have := R.le; omega
  rw [okR_row R.pos hl R.ok k]
  have lt : k % r < r := Nat.mod_lt _ (by have := R.pos; omega)
  have a := row_at (l := l.take r) (k := k % r) (by omega)
  rw [List.getElem?_take, if_pos lt, row_at (by have := R.le; omega)] at a
  have b := row_mod (l.take r) k
  rw [ln] at b
  rw [← b]
  exact (Option.some.inj a).symm
theorem per_dvd {f : Nat → Int} {p q : Nat} (hp : 1 ≤ p) (fp : ∀ k, f (k + p) = f k) (fq : ∀ k, f (k + q) = f k) (min : ∀ s, 1 ≤ s → s < p → ¬ ∀ k, f (k + s) = f k) : q % p = 0 := by
  have fj : ∀ j k, f (k + p * j) = f k := by
    intro j
    induction j with
    | zero => intro k; rfl
    | succ j ih => intro k; rw [Nat.mul_succ, ← Nat.add_assoc, fp, ih]
  by_cases c : q % p = 0
  · exact c
  · exfalso
    refine min (q % p) (by omega) (Nat.mod_lt _ (by omega)) fun k => ?_
    have e := fq k
    have d := Nat.div_add_mod q p
    rw [show k + q = (k + q % p) + p * (q / p) by omega, fj] at e
    exact e
theorem per_mod {f : Nat → Int} {s : Nat} (h : ∀ k, f (k + s) = f k) (k : Nat) : f (k % s) = f k := by
  have fj : ∀ j k, f (k + s * j) = f k := by
    intro j
    induction j with
    | zero => intro k; rfl
    | succ j ih => intro k; rw [Nat.mul_succ, ← Nat.add_assoc, h, ih]
  have d := Nat.div_add_mod k s
  have e := fj (k / s) (k % s)
  rw [show k % s + s * (k / s) = k by omega] at e
  exact e.symm
theorem okR_per {l : List Int} {s : Nat} (hs : 1 ≤ s) (hl : l ≠ []) (ok : okR l s) (k : Nat) : row l (k + s) = row l k := by
  rw [okR_row hs hl ok (k + s), Nat.add_mod_right, ← okR_row hs hl ok k]
theorem IsRt.least {l : List Int} {r : Nat} (R : IsRt l r) (hl : l ≠ []) : ∀ s, 1 ≤ s → s < r → ¬ ∀ k, L02.row l (k + s) = L02.row l k := by
  -- the least period p divides the length, so it cuts the word
  intro s s1 s2 hs
  have main : ∀ n p, p ≤ n → 1 ≤ p → p < r → (∀ k, L02.row l (k + p) = L02.row l k) → False := by
    intro n
    induction n with
    | zero => intro p a b; omega
    | succ n ih =>
      intro p hp p1 p2 fp
      by_cases c : ∃ q, 1 ≤ q ∧ q < p ∧ ∀ k, L02.row l (k + q) = L02.row l k
      · obtain ⟨q, q1, q2, q3⟩ := c
        exact ih q (by omega) q1 (by omega) q3
      · have d := per_dvd p1 fp (row_add l) (fun q a b z => c ⟨q, a, b, z⟩)
        exact R.min p p1 p2 ⟨d, fun k _ => (per_mod fp k).symm⟩
  exact main s s (Nat.le_refl _) s1 s2 hs
theorem root_eq {u v : List Int} {r s : Nat} (R : IsRt u r) (S : IsRt v s) (hu : u ≠ []) (hv : v ≠ []) : (u.take r = v.take s) ↔ ∀ k, row u k = row v k := by
  constructor
  · intro e k
    rw [← R.row k, ← S.row k, e]
  · intro h
    have a1 : ∀ k, row v (k + r) = row v k := fun k => by rw [← h, ← h]; exact okR_per R.pos hu R.ok k
    have a2 : ∀ k, row u (k + s) = row u k := fun k => by rw [h, h]; exact okR_per S.pos hv S.ok k
    have e : r = s := by
      rcases Nat.lt_trichotomy r s with c | c | c
      · exact absurd a1 (S.least hv r R.pos c)
      · exact c
      · exact absurd a2 (R.least hu s S.pos c)
    subst e
    have e1 : u.take r = cutR (row u) r := by
      conv => lhs; rw [self_cutR u]
      exact take_cutR _ _ _ R.le
    have e2 : v.take r = cutR (row v) r := by
      conv => lhs; rw [self_cutR v]
      exact take_cutR _ _ _ S.le
    rw [e1, e2]
    exact cutR_congr fun k _ => h k
theorem okS_iff {l : List Int} {s : Nat} (hs : 1 ≤ s) (h0 : l.length % s = 0) (hl : l ≠ []) : rep (l.take s) (l.length / s) = l ↔ okR l s := by
  have p : 0 < l.length := List.length_pos_iff.mpr hl
  have d := Nat.div_add_mod l.length s
  have sl : s ≤ l.length := by
    rcases Nat.lt_or_ge l.length s with c | c
    · rw [Nat.mod_eq_of_lt c] at h0; omega
    · exact c
  have ln : (l.take s).length = s := by rw [List.length_take]; omega
  have dl : l.length / s * s = l.length := by rw [Nat.mul_comm]; omega
  have tk : ∀ k, row (l.take s) k = row l (k % s) := by
    intro k
    have lt : k % s < s := Nat.mod_lt _ (by omega)
    have a := row_at (l := l.take s) (k := k % s) (by omega)
    rw [List.getElem?_take, if_pos lt, row_at (by omega)] at a
    have b := row_mod (l.take s) k
    rw [ln] at b
    rw [← b]
    exact (Option.some.inj a).symm
  rw [rep_row, ln, dl]
  constructor
  · intro e
    refine ⟨h0, fun k hk => ?_⟩
    have e2 : cutR (row (l.take s)) l.length = cutR (row l) l.length := e.trans (self_cutR l)
    rw [← cutR_inj e2 k hk, tk]
  · intro ok
    conv => rhs; rw [self_cutR l]
    exact cutR_congr fun k hk => by rw [tk, ← ok.2 k hk]
end L02
namespace L02
open PySem EV
section
local macro_rules | `(tactic| w_up) => `(tactic| simp only [w_seq, w_nil, w_rt, w_rtN, w_ex, w_as, w_if, w_par, w_rs, w_au, w_v, w_k, w_aN, w_aC, w_e2, w_tup, w_lst, w_cl, w_cl0, w_bl, w_asB, w_asT, w_tNt, w_tAn, w_tOr, w_tYs, w_eIf, w_eAn, w_eNtT, w_eOrT, w_oS, w_oN, w_eIs, w_eIs2, w_mt, w_mt0, wp_ok, wp_exc, List.getElem?_cons_zero, List.getElem?_cons_succ, List.set_cons_zero, List.set_cons_succ, Option.some.injEq, exists_eq_left', nc_int, nc_bl, nc_tup, nc_ref, nc_non, nc_str, true_and, and_true, List.length_cons, List.length_nil, List.map_cons, List.map_nil, W.bl.injEq, W.int.injEq, Bool.not_true, Bool.not_false, Bool.not_not, Bool.false_eq_true, if_true, if_false, iw_tup, iw_int, iw_bl, iw_str, iw_non, tr_bl, tr_int, tr_tup, tr_non, Bool.or_true, Bool.or_false, Bool.true_or, wipeR, qe_bl, qe_int, qe_non, isN_f, isN_t, beq_self_eq_true, bne_self_eq_false, Bool.false_bne, Bool.true_bne, o_gI, o_gI0, o_gB0, o_mulI, add_ii, o_mulW, o_addW, wd_fold, nc_wd, tr_wd, w_sl, sl_wd, cut_toN, cut_frN, qe_wd, len_wd])
variable {d : Nat} {h : Hpe} {l m : List Int}
theorem ne_pos (hl : l ≠ []) : 0 < l.length := List.length_pos_iff.mpr hl
theorem emp_no (hl : l ≠ []) : l.isEmpty = false := by cases l <;> first | rfl | exact absurd rfl hl
theorem mod_i (a b : Nat) : ((a : Int) % (b : Int) == 0) = decide (a % b = 0) := by
  rw [Bool.eq_iff_iff, beq_iff_eq, decide_eq_true_eq]
  omega
theorem root (hl : l ≠ []) (len : l.length ≤ 1000) {r : Nat} (R : IsRt l r) : callE (d + 3) 3 [wd l] h = .ok (.tup [wd (l.take r), .int ((l.length / r : Nat) : Int)]) h := by
  have pl := ne_pos hl
  rw [callE_at, b3]
  refine frm_is (nr1 l) (by rw [noRef_t, noRefs_c, wd_nr]; rfl) ?_ h
  refine run_wp ?_
  show (F_root_of (callE (d + 2)) [some (wd l), none, none] Hpe.nil).Wp _
  unfold F_root_of
  w_up
  simp only [fzw (show l.length < 80000 by omega)]
  w_up
  simp only [emp_no hl]
  w_up
  refine w_wh (fun k ρ h => ∃ s : Nat, 1 ≤ s ∧ s ≤ r ∧ k + s = r ∧ ρ = [some (wd l), some (wd l), some (.int s)]) (r - 1) (by have := R.le; omega) ⟨1, Nat.le_refl _, R.pos, by have := R.pos; omega, rfl⟩ ?_
  rintro k ρ h ⟨s, s1, s2, sk, rfl⟩
  have rl := R.le
  w_up
  refine ⟨decide_eq_true (by omega), ?_⟩
  have again : s < r → ∃ k', k' < k ∧ ∃ s' : Nat, 1 ≤ s' ∧ s' ≤ r ∧ k' + s' = r ∧ [some (wd l), some (wd l), some (W.int ((s : Int) + 1))] = [some (wd l), some (wd l), some (W.int (s' : Int))] := fun lt => ⟨k - 1, by omega, s + 1, by omega, by omega, by omega, by simp⟩
  by_cases c1 : l.length % s = 0
  · rw [mod_i, decide_eq_true c1]
    w_up
    have lt : ((l.take s).length) ≤ 1000 := by rw [List.length_take]; omega
    have q0 : (l.length : Int) / (s : Int) = ((l.length / s : Nat) : Int) := by omega
    have q1 : l.length / s ≤ l.length := Nat.div_le_self _ _
    rw [q0]
    refine ⟨cDiv_of (by omega) (by omega), cM_of (Int.le_trans (by decide) (Int.natCast_nonneg _)) (Int.ofNat_le.mpr (Nat.le_trans q1 len)) lt, ?_⟩
    rw [Int.toNat_natCast]
    by_cases c2 : rep (l.take s) (l.length / s) = l
    · have er : s = r := by
        rcases Nat.lt_or_ge s r with q | q
        · exact absurd ((okS_iff s1 c1 hl).mp c2) (R.min s s1 q)
        · omega
      subst er
      rw [c2]
      w_up
      exact ⟨cDiv_of (by omega) (by omega), rfl⟩
    · rw [show (rep (l.take s) (l.length / s) == l) = false from beq_eq_false_iff_ne.mpr c2]
      w_up
      refine again ?_
      rcases Nat.lt_or_ge s r with q | q
      · exact q
      · exact absurd ((okS_iff s1 c1 hl).mpr (by rw [show s = r by omega]; exact R.ok)) c2
  · rw [mod_i, decide_eq_false c1]
    w_up
    refine again ?_
    rcases Nat.lt_or_ge s r with q | q
    · exact q
    · exact absurd (by rw [show s = r by omega]; exact R.ok.1) c1
theorem ix_row {k : Nat} (e : k < l.length) : gIx2 (wd l) (.int (k : Int)) h = .ok (.int (row l k)) h := ix_wd (by omega) (by rw [Int.toNat_natCast]; exact row_at e)
theorem lroot (hl : l ≠ []) (len : l.length ≤ 1000) {r : Nat} (R : IsRt l r) : callE (d + 1) 15 [wd l] h = .ok (.tup [wd (l.take r), .int ((l.length / r : Nat) : Int)]) h := by
  have pl := ne_pos hl
  have rl := R.le
  have rp := R.pos
  rw [callE_at, b15]
  refine frm_is (nr1 l) (by rw [noRef_t, noRefs_c, wd_nr]; rfl) ?_ h
  rw [run_eq]
  show (F__law_root (callE d) [some (wd l), none, none] Hpe.nil).Wp _
  unfold F__law_root
  w_up
  with_reducible refine w_for (rngW 1 l.length) (fun i ρ h => i + 1 ≤ r ∧ h.lk = [] ∧ h.nx ≤ i ∧ ∃ a b, ρ = [some (wd l), a, b]) ?_ ?_ ?_ ?_
  · rw [rngW_len]; omega
  · rw [w_iR2e]
    w_up
    refine ⟨cR_of (by omega) (by omega), cR_of (by omega) (by omega), ⟨by omega, rfl, Nat.le_refl _, none, none, rfl⟩, fun i ρ h _ => ?_⟩
    rw [srcR_at]
    congr 2
    congr 1
    omega
  · rintro i w ρ h ew ⟨ir, lk, nx, a, b, rfl⟩
    rw [rngW_at] at ew
    split at ew
    · cases ew
      rw [show (1 : Int) + (i : Int) = ((i + 1 : Nat) : Int) by omega, w_gN]
      w_up
      refine ⟨decide_eq_true (by omega), ?_⟩
      have more : ∀ (h' : Hpe) (b : Option W), i + 1 ≠ r → h'.lk = [] → h'.nx ≤ i + 1 → i + 1 + 1 ≤ r ∧ h'.lk = [] ∧ h'.nx ≤ i + 1 ∧ ∃ a b_1, [some (wd l), some (W.int ((i + 1 : Nat) : Int)), b] = [some (wd l), a, b_1] := fun h' b ne e1 e2 => ⟨by omega, e1, e2, _, _, rfl⟩
      by_cases c1 : l.length % (i + 1) = 0
      · rw [mod_i, decide_eq_true c1]
        w_up
        with_reducible refine w_allR l.length (fun k => row l k == row l (k % (i + 1))) ?_ ?_ ?_ ?_ ?_
        · omega
        · omega
        · rw [w_iR1]
          w_up
          exact ⟨_, rfl, cR_of (by omega) (by omega), fun i => by rw [srcR_at, Int.toNat_natCast]⟩
        · intro k hk
          have km : k % (i + 1) < l.length := Nat.lt_of_le_of_lt (Nat.mod_le _ _) hk
          have e : ((k : Int) % ((i + 1 : Nat) : Int)) = ((k % (i + 1) : Nat) : Int) := by omega
          rw [w_gN]
          w_up
          rw [ix_row hk]
          w_up
          refine ⟨decide_eq_true (by omega), ?_⟩
          rw [e, ix_row km]
          w_up
        · intro h' gr
          w_up
          have q0 : (l.length : Int) / ((i + 1 : Nat) : Int) = ((l.length / (i + 1) : Nat) : Int) := by omega
          have ok : ((List.range l.length).all fun k => row l k == row l (k % (i + 1))) = true ↔ okR l (i + 1) := by
            rw [all_iff]
            exact ⟨fun a => ⟨c1, fun k hk => beq_iff_eq.mp (a k hk)⟩, fun a k hk => beq_iff_eq.mpr (a.2 k hk)⟩
          by_cases c2 : i + 1 = r
          · rw [ok.mpr (by rw [c2]; exact R.ok)]
            w_up
            refine ⟨cDiv_of (by omega) (by omega), ?_⟩
            rw [q0, c2]
            exact ⟨rfl, rfl⟩
          · rw [show ((List.range l.length).all fun k => row l k == row l (k % (i + 1))) = false by
              rw [← Bool.not_eq_true]
              exact fun z => R.min _ (by omega) (by omega) (ok.mp z)]
            w_up
            exact more h' _ c2 (gr.lk.trans lk) (by have := gr.lt; omega)
      · rw [mod_i, decide_eq_false c1]
        w_up
        exact more h _ (fun z => c1 (by rw [z]; exact R.ok.1)) lk (by omega)
    · cases ew
  · rintro ρ h ⟨ir, _⟩
    rw [rngW_len] at ir
    omega
end
end L02
namespace L02
open PySem EV
section
local macro_rules | `(tactic| w_up) => `(tactic| simp only [w_seq, w_nil, w_rt, w_rtN, w_ex, w_as, w_if, w_par, w_rs, w_au, w_v, w_k, w_aN, w_aC, w_e2, w_tup, w_lst, w_cl, w_cl0, w_bl, w_asB, w_asT, w_tNt, w_tAn, w_tOr, w_tYs, w_eIf, w_eAn, w_eNtT, w_eOrT, w_oS, w_oN, w_eIs, w_eIs2, w_mt, w_mt0, wp_ok, wp_exc, List.getElem?_cons_zero, List.getElem?_cons_succ, List.set_cons_zero, List.set_cons_succ, Option.some.injEq, exists_eq_left', nc_int, nc_bl, nc_tup, nc_ref, nc_non, nc_str, true_and, and_true, List.length_cons, List.length_nil, List.map_cons, List.map_nil, W.bl.injEq, W.int.injEq, Bool.not_true, Bool.not_false, Bool.not_not, Bool.false_eq_true, if_true, if_false, iw_tup, iw_int, iw_bl, iw_str, iw_non, tr_bl, tr_int, tr_tup, tr_non, Bool.or_true, Bool.or_false, Bool.true_or, wipeR, qe_bl, qe_int, qe_non, isN_f, isN_t, beq_self_eq_true, bne_self_eq_false, Bool.false_bne, Bool.true_bne, o_gI, o_gI0, o_gB0, o_mulI, add_ii, o_mulW, o_addW, wd_fold, nc_wd, tr_wd, w_sl, sl_wd, cut_toN, cut_frN, qe_wd, len_wd])
variable {d : Nat} {h : Hpe} {l m : List Int}
def from_ (l : List Int) (s : Nat) (n : Nat) : List Int := cutR (fun k => row l (s + k)) n
theorem drop_take (hl : l ≠ []) (k : Nat) : l.drop (k % l.length) ++ l.take (k % l.length) = from_ l k l.length := by
  have pl := ne_pos hl
  have lt : k % l.length < l.length := Nat.mod_lt _ pl
  have e1 : l.drop (k % l.length) = cutR (fun j => row l (k % l.length + j)) (l.length - k % l.length) := by
    conv => lhs; rw [self_cutR l]
    rw [drop_cutR]
    simp only [cutR_len]
  have e2 : l.take (k % l.length) = cutR (row l) (k % l.length) := by
    have z := take_cutR (row l) l.length (k % l.length) (by omega)
    rw [← self_cutR l] at z
    exact z
  rw [e1, e2, app_cutR]
  unfold from_
  rw [show l.length - k % l.length + k % l.length = l.length by omega]
  refine cutR_congr fun j hj => ?_
  have e3 : ∀ j, row l (k % l.length + j) = row l (k + j) := fun j => by
    rw [← row_mod l (k % l.length + j), Nat.mod_add_mod, row_mod]
  by_cases c : j < l.length - k % l.length
  · rw [if_pos c, e3]
  · rw [if_neg c, ← e3]
    have q := row_add l (j - (l.length - k % l.length))
    rw [← q]
    congr 1
    omega
theorem turn (hl : l ≠ []) (len : l.length ≤ 1000) {k : Nat} : callE (d + 3) 6 [wd l, .int (k : Int)] h = .ok (wd (from_ l k l.length)) h := by
  have pl := ne_pos hl
  rw [callE_at, b6]
  refine frm_is (nri l k) (wd_nr _) ?_ h
  rw [run_eq]
  show (F_turned (callE (d + 2)) [some (wd l), some (.int (k : Int)), none, none] Hpe.nil).Wp _
  unfold F_turned
  w_up
  simp only [fzw (show l.length < 80000 by omega)]
  w_up
  simp only [emp_no hl]
  w_up
  refine ⟨decide_eq_true (by omega), ?_⟩
  rw [show ((k : Int) % (l.length : Int)) = ((k % l.length : Nat) : Int) by omega]
  w_up
  rw [drop_take hl]
  refine ⟨?_, rfl⟩
  rw [List.length_drop, List.length_take]
  omega
theorem piece_eq (hl : l ≠ []) (s n : Nat) : ((rep l ((s % l.length + n) / l.length + 1)).drop (s % l.length)).take n = from_ l s n := by
  have pl := ne_pos hl
  have d1 := Nat.div_add_mod (s % l.length + n) l.length
  have d2 := Nat.mod_lt (s % l.length + n) pl
  have big : s % l.length + n ≤ ((s % l.length + n) / l.length + 1) * l.length := by
    rw [Nat.succ_mul, Nat.mul_comm]
    omega
  rw [rep_row, drop_cutR, take_cutR _ _ _ (by omega)]
  refine cutR_congr fun j _ => ?_
  rw [← row_mod l (s % l.length + j), Nat.mod_add_mod, row_mod]
theorem piece (hl : l ≠ []) (len : l.length ≤ 1000) {s n : Nat} (hn : n ≤ 900) : callE (d + 3) 7 [wd l, .int (s : Int), .int (n : Int)] h = .ok (wd (from_ l s n)) h := by
  have pl := ne_pos hl
  rw [callE_at, b7]
  refine frm_is (nrii l s n) (wd_nr _) ?_ h
  rw [run_eq]
  show (F_piece_of (callE (d + 2)) [some (wd l), some (.int (s : Int)), some (.int (n : Int)), none, none, none] Hpe.nil).Wp _
  unfold F_piece_of
  w_up
  simp only [fzw (show l.length < 80000 by omega)]
  w_up
  simp only [emp_no hl]
  w_up
  have lt : s % l.length < l.length := Nat.mod_lt _ pl
  have q1 : (s % l.length + n) / l.length ≤ n := by
    have : (s % l.length + n) / l.length < n + 1 := by
      rw [Nat.div_lt_iff_lt_mul pl]
      have : n * 1 ≤ n * l.length := Nat.mul_le_mul_left _ pl
      rw [Nat.succ_mul]
      omega
    omega
  refine ⟨decide_eq_true (by omega), cDiv_of (by omega) (by omega), ?_⟩
  rw [show ((s : Int) % (l.length : Int)) = ((s % l.length : Nat) : Int) by omega]
  rw [show ((((s % l.length : Nat) : Int) + (n : Int)) / (l.length : Int) + 1) = (((s % l.length + n) / l.length + 1 : Nat) : Int) by push_cast; rfl]
  rw [Int.toNat_natCast]
  refine ⟨cM_of (Int.le_trans (by decide) (Int.natCast_nonneg _)) (Int.ofNat_le.mpr (show (s % l.length + n) / l.length + 1 ≤ 1000 by omega)) len, ?_⟩
  rw [cut_mid _ _ _ (by omega) (by omega), Int.toNat_natCast, show (((s % l.length : Nat) : Int) + (n : Int) - ((s % l.length : Nat) : Int)).toNat = n by omega, piece_eq hl]
  rfl
theorem isPiece (hl : l ≠ []) (len : l.length ≤ 1000) {s : Nat} (hm : m.length ≤ 900) : callE (d + 4) 8 [wd l, .int (s : Int), wd m] h = .ok (.bl (from_ l s m.length == m)) h := by
  rw [callE_at, b8]
  refine frm_is (nriw l m s) rfl ?_ h
  rw [run_eq]
  show (F_is_piece (callE (d + 3)) [some (wd l), some (.int (s : Int)), some (wd m), none] Hpe.nil).Wp _
  unfold F_is_piece
  w_up
  simp only [fzw (d := d + 1) (show m.length < 80000 by omega)]
  w_up
  simp only [piece hl len hm]
  w_up
def apart (l m : List Int) : Option Nat := (List.range (min l.length m.length)).find? fun k => row l k != row m k
def optW : Option Nat → W
  | none => .non
  | some k => .int (k : Int)
def ezW (xs ys : List W) : List W := (List.range (min xs.length ys.length)).map fun i => .tup [.int (i : Nat), .tup [xs.getD i .non, ys.getD i .non]]
theorem srcEZ_at (xs ys : List W) (i : Nat) (h : Hpe) : srcEZ xs ys h i = some (ezW xs ys)[i]? := by
  unfold srcEZ ezW
  rw [List.getElem?_map]
  by_cases c : i < min xs.length ys.length
  · have c1 : i < xs.length := by omega
    have c2 : i < ys.length := by omega
    rw [List.getElem?_range c, List.getElem?_eq_getElem c1, List.getElem?_eq_getElem c2]
    dsimp only [Option.map]
    rw [List.getD_eq_getElem?_getD, List.getD_eq_getElem?_getD, List.getElem?_eq_getElem c1, List.getElem?_eq_getElem c2]
    rfl
  · rw [List.getElem?_eq_none (l := List.range _) (by rw [List.length_range]; omega)]
    by_cases c1 : i < xs.length
    · rw [List.getElem?_eq_getElem c1, List.getElem?_eq_none (l := ys) (by omega)]
      rfl
    · rw [List.getElem?_eq_none (l := xs) (by omega)]
      rfl
theorem find_first {n k : Nat} {p : Nat → Bool} (hk : k < n) (pk : p k = true) (mn : ∀ j, j < k → p j = false) : (List.range n).find? p = some k := by
  rw [List.find?_eq_some_iff_getElem]
  refine ⟨pk, k, by rw [List.length_range]; exact hk, by rw [List.getElem_range], fun j hj => ?_⟩
  rw [List.getElem_range, mn j hj]
  rfl
theorem find_none {n : Nat} {p : Nat → Bool} (mn : ∀ j, j < n → p j = false) : (List.range n).find? p = none := by
  rw [List.find?_eq_none]
  intro j hj
  rw [mn j (List.mem_range.mp hj)]
  exact Bool.false_ne_true
theorem first (hl : l.length ≤ 1000) (hm : m.length ≤ 1000) : callE (d + 3) 9 [wd l, wd m] h = .ok (optW (apart l m)) h := by
  rw [callE_at, b9]
  refine frm_is (nr2 l m) (by unfold optW; split <;> rfl) ?_ h
  rw [run_eq]
  show (F_first_apart (callE (d + 2)) [some (wd l), some (wd m), none, none, none] Hpe.nil).Wp _
  unfold F_first_apart
  w_up
  have fl : ∀ h : Hpe, callE (d + 2) 0 [wd l] h = .ok (wd l) h := fun h => fzw (by omega)
  have fm : ∀ h : Hpe, callE (d + 2) 0 [wd m] h = .ok (wd m) h := fun h => fzw (by omega)
  with_reducible refine w_for (ezW (l.map .int) (m.map .int)) (fun i ρ h => (∀ j, j < i → row l j = row m j) ∧ i ≤ min l.length m.length ∧ ∃ a b c, ρ = [some (wd l), some (wd m), a, b, c]) ?_ ?_ ?_ ?_
  · unfold ezW
    rw [List.length_map, List.length_range, List.length_map, List.length_map]
    omega
  · rw [w_iOr]
    have ar : ∀ h : Hpe, aC (eCl 1 (callE (d + 2) 0) (aC (eV 0) aN)) (aC (eCl 1 (callE (d + 2) 0) (aC (eV 1) aN)) aN) [some (wd l), some (wd m), none, none, none] h = .ok [wd l, wd m] h := fun h =>
      ac_ok ((cl_ok (n := 1) (ws := [wd l]) (h1 := h) rfl rfl).trans (fl h)) (ac_ok ((cl_ok (n := 1) (ws := [wd m]) (h1 := h) rfl rfl).trans (fm h)) rfl)
    have c1 : tupR (aC (eCl 1 (callE (d + 2) 0) (aC (eV 0) aN)) (aC (eCl 1 (callE (d + 2) 0) (aC (eV 1) aN)) aN)) [some (wd l), some (wd m), none, none, none] Hpe.nil = true := by
      unfold tupR
      rw [ar]
      rfl
    rw [if_pos c1]
    unfold iEZf
    rw [ar]
    exact ⟨⟨fun j hj => absurd hj (Nat.not_lt_zero _), Nat.zero_le _, _, _, _, rfl⟩, fun i _ h _ => srcEZ_at _ _ _ _⟩
  · rintro i w ρ h ew ⟨eq, le, a, b, c, rfl⟩
    unfold ezW at ew
    rw [List.getElem?_map, List.length_map, List.length_map] at ew
    by_cases ci : i < min l.length m.length
    · rw [List.getElem?_range ci] at ew
      have c1 : i < l.length := by omega
      have c2 : i < m.length := by omega
      have x1 : (l.map W.int).getD i .non = .int (row l i) := by rw [List.getD_eq_getElem?_getD, List.getElem?_map, row_at c1]; rfl
      have x2 : (m.map W.int).getD i .non = .int (row m i) := by rw [List.getD_eq_getElem?_getD, List.getElem?_map, row_at c2]; rfl
      dsimp only [Option.map] at ew
      rw [x1, x2] at ew
      cases ew
      show ((sSeq _ _) [some (wd l), some (wd m), some (.int (i : Nat)), some (.int (row l i)), some (.int (row m i))] h).Wp _
      w_up
      by_cases e : row l i = row m i
      · rw [show (row l i == row m i) = true from beq_iff_eq.mpr e]
        w_up
        refine ⟨fun j hj => ?_, by omega, _, _, _, rfl⟩
        by_cases q : j < i
        · exact eq j q
        · rw [show j = i by omega]; exact e
      · rw [show (row l i == row m i) = false from beq_eq_false_iff_ne.mpr e]
        w_up
        unfold apart
        rw [find_first ci (by exact bne_iff_ne.mpr e) (fun j hj => by rw [eq j hj]; exact bne_self_eq_false _)]
        rfl
    · rw [List.getElem?_eq_none (by rw [List.length_range]; omega)] at ew
      cases ew
  · rintro ρ h ⟨eq, le, a, b, c, rfl⟩
    have ln : (ezW (l.map .int) (m.map .int)).length = min l.length m.length := by
      unfold ezW
      rw [List.length_map, List.length_range, List.length_map, List.length_map]
    rw [ln] at eq
    w_up
    unfold apart
    rw [find_none fun j hj => by rw [eq j hj]; exact bne_self_eq_false _]
    rfl
end
end L02
namespace EV
open PySem
section
variable {h : Hpe} {ρ : Rho} {E : Exc → Hpe → Prop} {Q : W → Hpe → Prop}
theorem w_iL {f : FE} {Q : Src → Hpe → Prop} (e : (f ρ h).Wp (fun w h => ∃ n ws, w = .ref n ∧ h.get n = some (.lst ws) ∧ Q (srcL n) h) E) : (iV3 f ρ h).Wp Q E := by
  unfold iV3
  rw [wp_bind]
  refine e.mono (fun w h z => ?_) (fun _ _ q => q)
  obtain ⟨n, ws, e, g, q⟩ := z
  subst e
  have lk : lockW h n = none := by unfold lockW; rw [g]
  dsimp only
  rw [lk]
  dsimp only
  rw [rdL_of g]
  exact q
theorem noX_wp {r : RS} {D : Po} : r.noX.Wp D = r.Wp ⟨D.nx, D.rt, D.bk, D.ct, fun _ _ _ => False⟩ := by cases r <;> rfl
theorem w_try {fb : FS} {hs : List (Nat × FS)} {D : Po} : (sTry fb hs ρ h).Wp D = (fb ρ h).Wp ⟨D.nx, D.rt, D.bk, D.ct, fun x ρ h => (hdl hs x ρ h).Wp D⟩ := by
  unfold sTry
  cases fb ρ h <;> rfl
theorem frm_x {g : List W → Hpe → Res W} {ws : List W} {Q : W → Prop} {X : Exc → Prop} (a : noRefs ws = true) (e : (g ws Hpe.nil).Wp (fun w _ => noRef w = true ∧ Q w) (fun x _ => noRefs (x.fs.map (·.2)) = true ∧ X x)) : (∃ w, Q w ∧ ∀ h, frm g ws h = .ok w h) ∨ ∃ x, X x ∧ ∀ h, frm g ws h = .ex x h := by
  cases q : g ws Hpe.nil with
  | ok w h0 =>
    rw [q] at e
    refine .inl ⟨w, e.2, fun h => ?_⟩
    unfold frm
    rw [a, q]
    simp only [cond_true, e.1]
  | ex x h0 =>
    rw [q] at e
    refine .inr ⟨x, e.2, fun h => ?_⟩
    unfold frm
    rw [a, q]
    simp only [cond_true, e.1]
  | no => rw [q] at e; exact e.elim
theorem w_compD {fi : FI} {g : FG} {t : FT} {fe : FE} {vs : List Nat} (e : (fi ρ h).Wp (fun src h1 => ∃ (xs : List W) (I : Nat → Nat → List W → Hpe → Prop), xs.length < 100000 ∧ (h1.nx < 1099511627776 ∧ I h1.nx 0 [] (h1.new (.lst []))) ∧ (∀ n i ys h, I n i ys h → src h i = some xs[i]?) ∧
      (∀ n i w ys h, xs[i]? = some w → I n i ys h → ys.length ≤ i → (g w (wipeR ρ vs) h).Wp ⟨fun ρ' h => (t ρ' h).Wp (fun b h => if b = true then (fe ρ' h).Wp (fun y h => h.get n = some (.lst ys) ∧ I n (i + 1) (ys ++ [y]) (h.set n (.lst (ys ++ [y])))) E else I n (i + 1) ys h) E, fun _ _ => False, fun _ _ => False, fun _ _ => False, fun _ _ _ => False⟩) ∧
      (∀ n ys h, I n xs.length ys h → Q (.ref n) h)) E) : (eComp (.lst []) fi g t (moreL fe) vs ρ h).Wp Q E := by
  unfold eComp
  rw [wp_bind]
  refine e.mono (fun src h1 z => ?_) (fun _ _ q => q)
  obtain ⟨xs, I, hl, i0, sr, step, fin⟩ := z
  exact w_compL (fi := fun _ _ => .ok src h1) (h := h1) (ρ := ρ) xs I hl ⟨i0, sr⟩ step fin
end
end EV
namespace L02
open PySem EV
section
local macro_rules | `(tactic| w_up) => `(tactic| simp only [w_seq, w_nil, w_rt, w_rtN, w_ex, w_as, w_if, w_par, w_rs, w_au, w_v, w_k, w_aN, w_aC, w_e2, w_tup, w_lst, w_cl, w_cl0, w_bl, w_asB, w_asT, w_tNt, w_tAn, w_tOr, w_tYs, w_eIf, w_eAn, w_eNtT, w_eOrT, w_oS, w_oN, w_eIs, w_eIs2, w_mt, w_mt0, wp_ok, wp_exc, List.getElem?_cons_zero, List.getElem?_cons_succ, List.set_cons_zero, List.set_cons_succ, Option.some.injEq, exists_eq_left', nc_int, nc_bl, nc_tup, nc_ref, nc_non, nc_str, true_and, and_true, List.length_cons, List.length_nil, List.map_cons, List.map_nil, W.bl.injEq, W.int.injEq, Bool.not_true, Bool.not_false, Bool.not_not, Bool.false_eq_true, if_true, if_false, iw_tup, iw_int, iw_bl, iw_str, iw_non, tr_bl, tr_int, tr_tup, tr_non, Bool.or_true, Bool.or_false, Bool.true_or, wipeR, qe_bl, qe_int, qe_non, isN_f, isN_t, beq_self_eq_true, bne_self_eq_false, Bool.false_bne, Bool.true_bne, o_gI, o_gI0, o_gB0, o_mulI, add_ii, o_mulW, o_addW, wd_fold, nc_wd, tr_wd, w_sl, sl_wd, cut_toN, cut_frN, qe_wd, len_wd])
variable {d : Nat} {h : Hpe} {l m : List Int}
def ne (l : List Int) : Bool := !l.isEmpty
theorem wds_dat : ∀ ws : List (List Int), dats (ws.map wd) = true
  | [] => rfl
  | w :: ws => by
    show (dat (wd w) && dats (ws.map wd)) = true
    rw [wd_dat, wds_dat ws]
    rfl
theorem wds_nr : ∀ ws : List (List Int), noRefs (ws.map wd) = true
  | [] => rfl
  | w :: ws => by
    rw [List.map_cons, noRefs_c, wd_nr, wds_nr ws]
    rfl
theorem wds_tn : ∀ {ws : List (List Int)}, (∀ w ∈ ws, w.length ≤ 1000) → tns (ws.map wd) ≤ ws.length * 1001
  | [], _ => Nat.zero_le _
  | w :: ws, hw => by
    show tn (wd w) + tns (ws.map wd) ≤ (ws.length + 1) * 1001
    have := wds_tn (ws := ws) fun v hv => hw v (List.mem_cons_of_mem _ hv)
    have := hw w (List.mem_cons_self ..)
    rw [wd_tn]
    omega
def allC (r : List Int) (fs : List (List Int)) : Bool := fs.all fun w => r ++ w == w ++ r
theorem common {ws fs : List (List Int)} {f : List Int} {r : Nat} (hw : ∀ w ∈ ws, w.length ≤ 1000) (hn : ws.length ≤ 10) (hf : ws.filter ne = f :: fs) (R : IsRt f r) :
    (allC (f.take r) (f :: fs) = true ∧ ∀ h, callE (d + 4) 5 [.tup (ws.map wd)] h = .ok (wd (f.take r)) h) ∨ (allC (f.take r) (f :: fs) = false ∧ ∀ h, callE (d + 4) 5 [.tup (ws.map wd)] h = .ex ⟨0, []⟩ h) := by
  have mem : ∀ w ∈ f :: fs, w ∈ ws := fun w hm => by rw [← hf] at hm; exact (List.mem_filter.mp hm).1
  have fl : (f :: fs).length ≤ ws.length := by rw [← hf]; exact List.length_filter_le _ _
  have fne : f ≠ [] := by
    have : f ∈ ws.filter ne := by rw [hf]; exact List.mem_cons_self ..
    have q := (List.mem_filter.mp this).2
    intro e
    subst e
    cases q
  have nw : noRefs [W.tup (ws.map wd)] = true := by rw [noRefs_c, noRef_t, wds_nr]; rfl
  have lr : (f.take r).length ≤ 1000 := by rw [List.length_take]; have := hw f (mem f (List.mem_cons_self ..)); omega
  have z : (∃ w, (allC (f.take r) (f :: fs) = true ∧ w = wd (f.take r)) ∧ ∀ h, callE (d + 4) 5 [.tup (ws.map wd)] h = .ok w h) ∨ (∃ x : Exc, (allC (f.take r) (f :: fs) = false ∧ x = ⟨0, []⟩) ∧ ∀ h, callE (d + 4) 5 [.tup (ws.map wd)] h = .ex x h) := by
    rw [callE_at, b5]
    refine frm_x nw ?_
    have out : (runB 4 (F_common_root (callE (d + 3))) [.tup (ws.map wd)] Hpe.nil).Wp (fun w _ => allC (f.take r) (f :: fs) = true ∧ w = wd (f.take r)) (fun x _ => allC (f.take r) (f :: fs) = false ∧ x = ⟨0, []⟩) := by
      rw [run_eq]
      show (F_common_root (callE (d + 3)) [some (.tup (ws.map wd)), none, none, none] Hpe.nil).Wp _
      unfold F_common_root
      w_up
      rw [w_un]
      w_up
      have fz1 : ∀ h : Hpe, callE (d + 3) 0 [.tup (ws.map wd)] h = .ok (.tup (ws.map wd)) h := fun h => fz (d := d + 1) _ (wds_dat ws) (by show tns (ws.map wd) + 1 < 90000; have := wds_tn hw; omega) (by rw [noRef_t, wds_nr]) rfl
      with_reducible refine w_lc (ws.map wd) (fun i ys h => h = Hpe.nil ∧ i ≤ ws.length ∧ ys = ((ws.take i).filter ne).map wd) ?_ ?_ ?_ ?_
      · rw [List.length_map]; omega
      · refine w_iT ?_
        w_up
        refine wp_eq (fz1 _) ⟨_, rfl, ⟨rfl, Nat.zero_le _, rfl⟩, fun i ys h _ => srcT_at _ _ _⟩
      · rintro i w ys h ew ⟨rfl, hi, rfl⟩
        rw [List.getElem?_map] at ew
        cases e : ws[i]? with
        | none => rw [e] at ew; cases ew
        | some v =>
          rw [e] at ew
          cases ew
          have lt := (List.getElem?_eq_some_iff.mp e).1
          have tk : (ws.take (i + 1)).filter ne = (ws.take i).filter ne ++ (if ne v = true then [v] else []) := by
            rw [List.take_add_one, e, List.filter_append]
            show _ ++ [v].filter ne = _
            rw [List.filter_cons, List.filter_nil]
          rw [w_gN]
          w_up
          rw [tk]
          by_cases c : ne v = true
          · have c' : (!v.isEmpty) = true := c
            rw [if_pos c', if_pos c, List.map_append]
            exact ⟨by omega, rfl⟩
          · have c' : ¬ (!v.isEmpty) = true := c
            rw [if_neg c', if_neg c, List.append_nil]
            exact ⟨by omega, rfl⟩
      · rintro ys h ⟨rfl, _, rfl⟩
        rw [List.length_map, List.take_length, hf]
        refine ⟨by decide, ?_⟩
        rw [unl_nil rfl rfl]
        have g0 : (Hpe.nil.new (.lst ((f :: fs).map wd))).get 0 = some (.lst ((f :: fs).map wd)) := new_get _ (by decide)
        generalize hh : Hpe.nil.new (.lst ((f :: fs).map wd)) = h1 at g0 ⊢
        have lk : h1.lk = [] := by rw [← hh]; rfl
        rw [show Hpe.nil.nx = 0 from rfl]
        w_up
        rw [tr_lst g0]
        refine ⟨_, rfl, ?_⟩
        rw [show (!(!((f :: fs).map wd).isEmpty)) = false from rfl]
        w_up
        refine wp_eq (ix_lst g0 (atI_0 _ _)) ?_
        refine wp_eq (root fne (hw f (mem f (List.mem_cons_self ..))) R) ?_
        refine wp_eq (ix_t (atI_0 _ _)) ?_
        rw [w_un]
        w_up
        have co : ∀ (w : List Int), w ∈ f :: fs → ∀ h, callE (d + 3) 4 [wd (f.take r), wd w] h = .ok (.bl (f.take r ++ w == w ++ f.take r)) h := fun w hm h => comm lr (hw w (mem w hm))
        with_reducible refine w_gn ((f :: fs).map wd) (fun i h => h = h1 ∧ ∀ j v, j < i → (f :: fs)[j]? = some v → (f.take r ++ v == v ++ f.take r) = true) ?_ ?_ ?_ ?_
        · rw [List.length_map]; omega
        · refine w_iL ?_
          w_up
          refine ⟨0, _, rfl, g0, fun j v hj => absurd hj (Nat.not_lt_zero _), ?_⟩
          rintro i h ⟨rfl, _⟩
          exact srcL_at (rdL_of g0) i
        · rintro i w h ew ⟨rfl, ok⟩
          rw [List.getElem?_map] at ew
          cases e : (f :: fs)[i]? with
          | none => rw [e] at ew; cases ew
          | some v =>
            rw [e] at ew
            cases ew
            have vm : v ∈ f :: fs := List.mem_of_getElem? e
            rw [w_gN]
            w_up
            refine wp_eq (co v vm _) ?_
            w_up
            by_cases c : (f.take r ++ v == v ++ f.take r) = true
            · rw [if_pos c]
              refine fun j u hj eu => ?_
              by_cases q : j < i
              · exact ok j u q eu
              · rw [show j = i by omega, e] at eu
                cases eu
                exact c
            · rw [if_neg c]
              unfold allC
              rw [List.all_eq_false]
              exact ⟨v, vm, c⟩
        · rintro h ⟨rfl, ok⟩
          w_up
          unfold allC
          rw [List.all_eq_true]
          intro v vm
          obtain ⟨j, hj, e⟩ := List.mem_iff_getElem.mp vm
          exact ok j v (by rw [List.length_map]; exact hj) (by rw [List.getElem?_eq_getElem hj, e])
    refine out.mono (fun w h q => ⟨by rw [q.2]; exact wd_nr _, q⟩) (fun x h q => ⟨by rw [q.2]; rfl, q⟩)
  rcases z with ⟨w, ⟨a, rfl⟩, e⟩ | ⟨x, ⟨a, rfl⟩, e⟩
  · exact .inl ⟨a, e⟩
  · exact .inr ⟨a, e⟩
end
end L02
namespace EV
open PySem
section
variable {h : Hpe} {ρ : Rho} {E : Exc → Hpe → Prop} {Q : W → Hpe → Prop} {D : Po}
theorem cl_gT2 {i j : Nat} {a b : W} : (gTL 2 (gsC (gN i) (gsC (gN j) gsN)) (.tup [a, b]) ρ h).cl.Wp D = D.nx ((ρ.set i (some a)).set j (some b)) h := by
  show ((((gN i a ρ h).seq fun ρ' h' => gsC (gN j) gsN [b] ρ' h')).cl).Wp D = _
  unfold gN
  rw [setR_eq]
  show ((((gN j b (ρ.set i (some a)) h).seq fun ρ' h' => gsN [] ρ' h')).cl).Wp D = _
  unfold gN
  rw [setR_eq]
  rfl
theorem w_addL {a k : Nat} {xs zs : List W} (ga : h.get a = some (.lst xs)) (gk : h.get k = some (.lst zs)) (l : xs.length + zs.length ≤ 100000) (nx : h.nx < 1000000000) (q : Q (.ref h.nx) (h.new (.lst (xs ++ zs)))) : (gAdd (.ref a) (.ref k) h).Wp Q E := by
  unfold gAdd
  dsimp only
  rw [rdL_of ga, rdL_of gk]
  dsimp only
  rw [line_of l]
  show (h.al _).Wp Q E
  rw [w_al]
  exact ⟨by omega, q⟩
theorem w_more {i a : Nat} {fs : FA} {xs : List W} (ei : ρ[i]? = some (some (.ref a))) (e : (fs ρ h).Wp (fun zs h1 => zs.length ≤ 1000 ∧ xs.length ≤ 1000 ∧ h1.nx < 100000000 ∧ a < h1.nx ∧ h1.get a = some (.lst xs) ∧ ∀ h2 a', Gr noM 2 h1 h2 → h1.nx ≤ a' → a' < h2.nx → h2.get a' = some (.lst (xs ++ zs)) → D.nx (ρ.set i (some (.ref a'))) h2) (fun x h => D.ex x ρ h)) : (sAs (e2 gAdd (eV i) (eLst fs)) (gN i) ρ h).Wp D := by
  rw [w_as, w_e2, w_v]
  refine ⟨_, ei, rfl, ?_⟩
  rw [w_lst]
  refine e.mono (fun zs h1 q => ?_) (fun _ _ q => q)
  obtain ⟨l1, l2, nx, al, ga, q⟩ := q
  refine ⟨line_of (by omega), by omega, ?_⟩
  have ga1 : (h1.new (.lst zs)).get a = some (.lst xs) := by rw [get_new (by omega), if_neg (by omega)]; exact ga
  refine w_addL ga1 (new_get _ (by omega)) (by omega) (by show h1.nx + 1 < _; omega) ?_
  refine q _ (h1.nx + 1) ((Gr.new (M := noM) _).trans (Gr.new _)) (by omega) (by show h1.nx + 1 < h1.nx + 1 + 1; omega) ?_
  exact new_get _ (by show h1.nx + 1 + 1 < _; omega)
abbrev ZT := Nat × (Nat → Option Ob)
structure StU (Z : ZT) (n : Nat) (c : Int) (b : Nat) (h : Hpe) : Prop where
  urn : UrnAt h n c
  hn : n < h.nx
  nx : h.nx ≤ b
  lk : h.lk = []
  fr : Z.1 ≤ h.nx ∧ ∀ i, i < Z.1 → i ≠ n → h.get i = Z.2 i
theorem StU.draw {Z : ZT} {n : Nat} {c c' : Int} {b k : Nat} {h h' : Hpe} (s : StU Z n c b h) (u : UrnAt h' n c') (gr : Gr (· = n) k h h') : StU Z n c' (b + k) h' :=
  ⟨u, Nat.lt_of_lt_of_le s.hn gr.le, by have := gr.lt; have := s.nx; omega, gr.lk.trans s.lk, Nat.le_trans s.fr.1 gr.le, fun i hi m => (gr.old i (Nat.lt_of_lt_of_le hi s.fr.1) m).trans (s.fr.2 i hi m)⟩
theorem StU.grow {Z : ZT} {n : Nat} {c : Int} {b k : Nat} {h h' : Hpe} (s : StU Z n c b h) (gr : Gr noM k h h') : StU Z n c (b + k) h' := by
  refine s.draw ?_ (gr.mono (Nat.le_refl _) fun _ _ z => z.elim)
  obtain ⟨a, b, c', g, x, y⟩ := s.urn
  exact ⟨a, b, c', (gr.old n s.hn fun z => z).trans g, x, y⟩
theorem StU.mono {Z : ZT} {n : Nat} {c c' : Int} {b b' : Nat} {h : Hpe} (s : StU Z n c b h) (hb : b ≤ b') (hc : c ≤ c') : StU Z n c' b' h := by
  obtain ⟨x, y, z, g, p, q⟩ := s.urn
  exact ⟨⟨x, y, z, g, p, by omega⟩, s.hn, by have := s.nx; omega, s.lk, s.fr⟩
structure SmL (h : Hpe) (B : Nat → Prop) (xs ys : List W) : Prop where
  len : xs.length = ys.length
  sm : ∀ (i : Nat) (w u : W), xs[i]? = some w → ys[i]? = some u → Sm h B 3 100 w u
theorem SmL.app {B : Nat → Prop} {xs ys xs' ys' : List W} (a : SmL h B xs ys) (b : SmL h B xs' ys') : SmL h B (xs ++ xs') (ys ++ ys') :=
  ⟨by rw [List.length_append, List.length_append, a.len, b.len], fun i w u e1 e2 => by
    rw [List.getElem?_append] at e1 e2
    by_cases c : i < xs.length
    · rw [if_pos c] at e1
      rw [if_pos (by rw [← a.len]; exact c)] at e2
      exact a.sm i w u e1 e2
    · rw [if_neg c] at e1
      rw [if_neg (by rw [← a.len]; exact c), ← a.len] at e2
      exact b.sm _ w u e1 e2⟩
theorem SmL.nil {B : Nat → Prop} : SmL h B [] [] := ⟨rfl, fun i w u e => by simp at e⟩
theorem SmL.cons {B : Nat → Prop} {w u : W} {xs ys : List W} (s : Sm h B 3 100 w u) (a : SmL h B xs ys) : SmL h B (w :: xs) (u :: ys) :=
  ⟨by rw [List.length_cons, List.length_cons, a.len], fun i v v' e1 e2 => by
    cases i with
    | zero =>
      simp at e1 e2
      subst e1 e2
      exact s
    | succ i => exact a.sm i v v' (by simpa using e1) (by simpa using e2)⟩
theorem SmL.mono {h' : Hpe} {B : Nat → Prop} {xs ys : List W} (a : SmL h B xs ys) (o : ∀ i, i < h.nx → ¬ B i → h'.get i = h.get i) (le : h.nx ≤ h'.nx) : SmL h' B xs ys :=
  ⟨a.len, fun i w u e1 e2 => (a.sm i w u e1 e2).mono o le (Nat.le_refl _) (Nat.le_refl _)⟩
theorem sm_map {B : Nat → Prop} {d n : Nat} (l : List Int) (hl : l.length ≤ n) : Sm h B (d + 2) n (wd l) (wd l) := by
  refine .tup rfl (by rw [List.length_map]; exact hl) fun i w u e1 e2 => ?_
  rw [e1] at e2
  cases e2
  rw [List.getElem?_map] at e1
  cases q : l[i]? with
  | none => rw [q] at e1; cases e1
  | some x => rw [q] at e1; cases e1; exact .int _
end
end EV
namespace L02
open PySem EV
def B_S0 (T : Tab) : FS := (sAs (eOrT (e2 (gEq false) (eV 9) (eTup aN)) (e2 (gEq false) (e2 gIx2 (eCl 1 (T 15) (aC (eV 9) aN)) (eK (.int 0))) (e2 gIx2 (eV 5) (eK (.int 0))))) (gN 10))
def B_S1 (T : Tab) : FS := (sAs (e2 gAdd (eBl bLen3 (aC (eV 2) aN)) (eBl bLen3 (aC (eV 9) aN))) (gN 11))
def B_S2 (T : Tab) : FS := (sAs (eAn (e2 (gEq true) (eV 9) (eTup aN)) (eBl (bAllAny fun bs => bs.all id) (aC (eLc (iR1 (aC (eV 11) aN)) (gN 13) tYs (e2 (gEq false) (e2 gIx2 (eV 2) (e2 (gI (fun _ j => decide (0 < j)) fun i j => i % j) (eV 13) (eBl bLen3 (aC (eV 2) aN)))) (e2 gIx2 (eV 9) (e2 (gI (fun _ j => decide (0 < j)) fun i j => i % j) (eV 13) (eBl bLen3 (aC (eV 9) aN))))) [13]) aN))) (gN 12))
def B_S3 (T : Tab) : FS := (sAs (e2 gAdd (eV 7) (eLst (aC (eCl 2 (T 4) (aC (eV 2) (aC (eV 9) aN))) (aC (eCl 2 (T 4) (aC (eV 9) (aC (eV 2) aN))) (aC (eCl 2 (T 4) (aC (eV 2) (aC (eV 9) aN))) aN))))) (gN 7))
def B_S4 (T : Tab) : FS := (sAs (e2 gAdd (eV 8) (eLst (aC (eV 10) (aC (eV 10) (aC (eOrT (e2 (gEq false) (eV 9) (eTup aN)) (eV 12)) aN))))) (gN 8))
def B_S5 (T : Tab) : FS := (sAs (eLc (iR1 (aC (eBl (bMM2 fun i j => if j < i then j else i) (aC (eBl bLen3 (aC (eV 2) aN)) (aC (eBl bLen3 (aC (eV 9) aN)) aN))) aN)) (gN 13) (asB (e2 (gEq true) (e2 gIx2 (eV 2) (eV 13)) (e2 gIx2 (eV 9) (eV 13)))) (eV 13) [13]) (gN 14))
def B_S6 (T : Tab) : FS := (sAs (e2 gAdd (eV 7) (eLst (aC (eCl 2 (T 9) (aC (eV 2) (aC (eV 9) aN))) (aC (eCl 2 (T 9) (aC (eV 9) (aC (eV 2) aN))) aN)))) (gN 7))
def B_S7 (T : Tab) : FS := (sAs (e2 gAdd (eV 8) (e2 gMul (eLst (aC (eIf (asB (e2 (gB0 fun i j => decide (j < i)) (eBl bLen3 (aC (eV 14) aN)) (eK (.int 0)))) (e2 gIx2 (eV 14) (eK (.int 0))) (eK .non)) aN)) (eK (.int 2)))) (gN 8))
def B_R8 (_T : Tab) : FS := sNil
def B_R7 (T : Tab) : FS := sSeq (B_S7 T) (B_R8 T)
def B_R6 (T : Tab) : FS := sSeq (B_S6 T) (B_R7 T)
def B_R5 (T : Tab) : FS := sSeq (B_S5 T) (B_R6 T)
def B_R4 (T : Tab) : FS := sSeq (B_S4 T) (B_R5 T)
def B_R3 (T : Tab) : FS := sSeq (B_S3 T) (B_R4 T)
def B_R2 (T : Tab) : FS := sSeq (B_S2 T) (B_R3 T)
def B_R1 (T : Tab) : FS := sSeq (B_S1 T) (B_R2 T)
def B_R0 (T : Tab) : FS := sSeq (B_S0 T) (B_R1 T)
def A_S0 (T : Tab) : FS := (sAs (e2 gAdd (eCl 3 (T 14) (aC (eV 0) (aC (eK (.int 3)) (aC (eK (.int 2)) aN)))) (eTup (aC (eCl 2 (T 11) (aC (eV 0) (aC (eK (.int 2)) aN))) aN))) (gN 1))
def A_S1 (T : Tab) : FS := (sAs (e2 gMul (eV 1) (e2 gAdd (eK (.int 1)) (eCl 2 (T 11) (aC (eV 0) (aC (eK (.int 4)) aN))))) (gN 2))
def A_S2 (T : Tab) : FS := (sAs (eIf (asB (e2 (gEq false) (eCl 2 (T 11) (aC (eV 0) (aC (eK (.int 2)) aN))) (eK (.int 0)))) (e2 gMul (eV 1) (eCl 2 (T 11) (aC (eV 0) (aC (eK (.int 4)) aN)))) (eCl 3 (T 14) (aC (eV 0) (aC (eK (.int 6)) (aC (eK (.int 2)) aN))))) (gN 3))
def A_S3 (T : Tab) : FS := (sAs (eIf (asB (e2 (gEq false) (eCl 2 (T 11) (aC (eV 0) (aC (eK (.int 3)) aN))) (eK (.int 0)))) (eCl 3 (T 14) (aC (eV 0) (aC (eK (.int 4)) (aC (eK (.int 2)) aN)))) (e2 gMul (eV 1) (eCl 2 (T 11) (aC (eV 0) (aC (eK (.int 3)) aN))))) (gN 4))
def A_S4 (T : Tab) : FS := (sAs (eTup (aC (eCl 1 (T 15) (aC (eV 2) aN)) (aC (eCl 2 (T 11) (aC (eV 0) (aC (eK (.int 7)) aN))) aN))) (gTL 2 (gsC (gN 5) (gsC (gN 6) gsN))))
def A_S5 (T : Tab) : FS := (sPar 7 8 (aC (eLst (aC (eCl 1 (T 3) (aC (eV 2) aN)) (aC (eCl 2 (T 2) (aC (e2 gIx2 (eV 5) (eK (.int 0))) (aC (e2 gIx2 (eV 5) (eK (.int 1))) aN))) (aC (eCl 2 (T 2) (aC (eV 3) (aC (eV 6) aN))) aN)))) (aC (eLst (aC (eV 5) (aC (eV 2) (aC (e2 gMul (eV 3) (eV 6)) aN)))) aN)))
def A_S6 (T : Tab) : FS := sFor (iV3 (eTup (aC (eV 3) (aC (eV 4) aN)))) (gN 9) (B_R0 T)
def A_S7 (T : Tab) : FS := (sAs (eLc (iV3 (eTup (aC (eV 2) (aC (eV 3) (aC (eV 4) aN))))) (gN 9) (asB (e2 (gEq true) (eV 9) (eTup aN))) (eV 9) [9]) (gN 15))
def A_S8 (T : Tab) : FS := (sUn (sAs (eBl (bAllAny fun bs => bs.all id) (aC (eComp (.lst []) (iV3 (eV 15)) (gN 9) tYs (moreL (e2 (gEq false) (e2 gIx2 (eCl 1 (T 15) (aC (eV 9) aN)) (eK (.int 0))) (e2 gIx2 (eV 5) (eK (.int 0))))) [9]) aN)) (gN 16)))
def A_S9 (T : Tab) : FS := (sAs (e2 gAdd (eV 7) (eLst (aC (eCl 1 (T 16) (aC (eTup (aC (eV 2) (aC (eV 3) (aC (eV 4) aN)))) aN)) (aC (eCl 1 (T 16) (aC (eTup (aC (eV 4) (aC (eV 3) (aC (eV 2) aN)))) aN)) aN)))) (gN 7))
def A_S10 (T : Tab) : FS := (sAs (e2 gAdd (eV 8) (e2 gMul (eLst (aC (eIf (asT (eV 16)) (e2 gIx2 (eV 5) (eK (.int 0))) (eLst (aC (eK (.str "none")) aN))) aN)) (eK (.int 2)))) (gN 8))
def A_S11 (T : Tab) : FS := (sAs (eCl 2 (T 11) (aC (eV 0) (aC (eK (.int 9)) aN))) (gN 17))
def A_S12 (T : Tab) : FS := (sAs (eV 2) (gN 18))
def A_S13 (T : Tab) : FS := (sFor (iR1 (aC (eV 17) aN)) (gN 13) (sSeq (sAs (e2 gAdd (eSl (eV 18) (oS (eK (.int 1))) oN) (eSl (eV 18) oN (oS (eK (.int 1))))) (gN 18)) sNil))
def A_S14 (T : Tab) : FS := (sAs (e2 gAdd (eV 7) (eLst (aC (eCl 2 (T 6) (aC (eV 2) (aC (eV 17) aN))) (aC (eCl 2 (T 6) (aC (eV 2) (aC (e2 gAdd (eV 17) (e2 gMul (eBl bLen3 (aC (eV 2) aN)) (e2 (gI cPow fun i j => i ^ j.toNat) (eK (.int 10)) (eK (.int 9))))) aN))) (aC (eCl 3 (T 7) (aC (eV 2) (aC (eV 17) (aC (eV 6) aN)))) (aC (eCl 3 (T 8) (aC (eV 2) (aC (eV 17) (aC (eV 3) aN)))) (aC (eCl 3 (T 7) (aC (eV 2) (aC (e2 gAdd (eV 17) (e2 gMul (eBl bLen3 (aC (eV 2) aN)) (e2 (gI cPow fun i j => i ^ j.toNat) (eK (.int 10)) (eK (.int 9))))) (aC (eV 6) aN)))) aN))))))) (gN 7))
def A_S15 (T : Tab) : FS := (sAs (eBl bTup (aC (eLc (iR1 (aC (eV 6) aN)) (gN 13) tYs (e2 gIx2 (e2 gMul (eV 2) (eK (.int 20))) (e2 gAdd (eV 17) (eV 13))) [13]) aN)) (gN 19))
def A_S16 (T : Tab) : FS := (sAs (e2 gAdd (eV 8) (eLst (aC (eV 18) (aC (eV 18) (aC (eV 19) (aC (eBl (bAllAny fun bs => bs.all id) (aC (eLc (iR1 (aC (eBl bLen3 (aC (eV 3) aN)) aN)) (gN 13) tYs (e2 (gEq false) (e2 gIx2 (e2 gMul (eV 2) (eK (.int 20))) (e2 gAdd (eV 17) (eV 13))) (e2 gIx2 (eV 3) (eV 13))) [13]) aN)) (aC (eV 19) aN))))))) (gN 8))
def A_S17 (T : Tab) : FS := (sRt (eCl 2 (T 13) (aC (eV 7) (aC (eV 8) aN))))
def A_R18 (_T : Tab) : FS := sNil
def A_R17 (T : Tab) : FS := sSeq (A_S17 T) (A_R18 T)
def A_R16 (T : Tab) : FS := sSeq (A_S16 T) (A_R17 T)
def A_R15 (T : Tab) : FS := sSeq (A_S15 T) (A_R16 T)
def A_R14 (T : Tab) : FS := sSeq (A_S14 T) (A_R15 T)
def A_R13 (T : Tab) : FS := sSeq (A_S13 T) (A_R14 T)
def A_R12 (T : Tab) : FS := sSeq (A_S12 T) (A_R13 T)
def A_R11 (T : Tab) : FS := sSeq (A_S11 T) (A_R12 T)
def A_R10 (T : Tab) : FS := sSeq (A_S10 T) (A_R11 T)
def A_R9 (T : Tab) : FS := sSeq (A_S9 T) (A_R10 T)
def A_R8 (T : Tab) : FS := sSeq (A_S8 T) (A_R9 T)
def A_R7 (T : Tab) : FS := sSeq (A_S7 T) (A_R8 T)
def A_R6 (T : Tab) : FS := sSeq (A_S6 T) (A_R7 T)
def A_R5 (T : Tab) : FS := sSeq (A_S5 T) (A_R6 T)
def A_R4 (T : Tab) : FS := sSeq (A_S4 T) (A_R5 T)
def A_R3 (T : Tab) : FS := sSeq (A_S3 T) (A_R4 T)
def A_R2 (T : Tab) : FS := sSeq (A_S2 T) (A_R3 T)
def A_R1 (T : Tab) : FS := sSeq (A_S1 T) (A_R2 T)
def A_R0 (T : Tab) : FS := sSeq (A_S0 T) (A_R1 T)
theorem right_eq (T : Tab) : F__law_right T = A_R0 T := rfl
section
local macro_rules | `(tactic| w_up) => `(tactic| simp only [w_seq, w_nil, w_rt, w_rtN, w_ex, w_as, w_if, w_par, w_rs, w_au, w_v, w_k, w_aN, w_aC, w_e2, w_tup, w_lst, w_cl, w_cl0, w_bl, w_asB, w_asT, w_tNt, w_tAn, w_tOr, w_tYs, w_eIf, w_eAn, w_eNtT, w_eOrT, w_oS, w_oN, w_eIs, w_eIs2, w_mt, w_mt0, wp_ok, wp_exc, List.getElem?_cons_zero, List.getElem?_cons_succ, List.set_cons_zero, List.set_cons_succ, Option.some.injEq, exists_eq_left', nc_int, nc_bl, nc_tup, nc_ref, nc_non, nc_str, true_and, and_true, List.length_cons, List.length_nil, List.map_cons, List.map_nil, W.bl.injEq, W.int.injEq, Bool.not_true, Bool.not_false, Bool.not_not, Bool.false_eq_true, if_true, if_false, iw_tup, iw_int, iw_bl, iw_str, iw_non, tr_bl, tr_int, tr_tup, tr_non, Bool.or_true, Bool.or_false, Bool.true_or, wipeR, qe_bl, qe_int, qe_non, isN_f, isN_t, beq_self_eq_true, bne_self_eq_false, Bool.false_bne, Bool.true_bne, o_gI, o_gI0, o_gB0, o_mulI, add_ii, o_mulW, o_addW, wd_fold, nc_wd, tr_wd, w_sl, sl_wd, cut_toN, cut_frN, qe_wd, len_wd])
variable {d : Nat} {h : Hpe} {l m : List Int}
theorem et (d : Nat) : callE (d + 1) 11 = runB 6 uTake := by rw [callE_at, b11]
theorem lcommon {ws fs : List (List Int)} {f : List Int} {r : Nat} (hw : ∀ w ∈ ws, w.length ≤ 1000) (hn : ws.length ≤ 10) (hf : ws.filter ne = f :: fs) (R : IsRt f r) {Q : W → Hpe → Prop} {E : Exc → Hpe → Prop} (nx : h.nx < 1000000000)
    (qt : allC (f.take r) (f :: fs) = true → Q (wd (f.take r)) h) (qf : allC (f.take r) (f :: fs) = false → Q (.ref h.nx) (h.new (.lst [.str "none"]))) : (callE (d + 5) 16 [.tup (ws.map wd)] h).Wp Q E := by
  rw [callE_at, b16, run_eq]
  show (F__law_common (callE (d + 4)) [some (.tup (ws.map wd))] h).Wp _
  unfold F__law_common
  w_up
  rw [w_try]
  w_up
  rcases common (d := d) hw hn hf R with ⟨a, e⟩ | ⟨a, e⟩
  · exact wp_eq (e h) (qt a)
  · rw [e h]
    show (hdl _ ⟨0, []⟩ [some (.tup (ws.map wd))] h).Wp _
    show (RS.noX _).Wp _
    rw [noX_wp]
    w_up
    exact ⟨by decide, by omega, qf a⟩
theorem word {Z : ZT} {n : Nat} {c : Int} {b : Nat} (s : StU Z n c b h) (hb : b ≤ 100000000) {most kinds : Nat} (m1 : most ≤ 1000) (k0 : 0 < kinds) (k1 : kinds ≤ 1000) (hc : c < 100000000) {Q : W → Hpe → Prop} {E : Exc → Hpe → Prop}
    (q : ∀ (l : List Int) (h' : Hpe), l.length ≤ most → StU Z n (c + 1 + most) (b + 1) h' → Gr (· = n) 1 h h' → Q (wd l) h') : (callE (d + 2) 14 [.ref n, .int (most : Int), .int (kinds : Int)] h).Wp Q E := by
  have hn := s.hn
  have nxb := s.nx
  rw [callE_at, b14, run_eq]
  show (F__law_word (callE (d + 1)) [some (.ref n), some (.int (most : Int)), some (.int (kinds : Int)), none] h).Wp _
  unfold F__law_word
  w_up
  with_reducible refine w_compD ?_
  rw [w_iR1]
  w_up
  refine w_take (et d) s.urn (by omega) (by omega) (by omega) (by omega) fun t h1 t0 t1 u1 g1 => ?_
  have n1 : n < h1.nx := Nat.lt_of_lt_of_le hn g1.le
  have xl := g1.lt
  refine ⟨t, rfl, cR_of (by omega) (by omega), rngW 0 t.toNat, fun k i ys h' => ∃ l : List Int, ys = l.map .int ∧ l.length = i ∧ i ≤ t.toNat ∧ UrnAt h' n (c + 1 + i) ∧ h'.get k = some (.lst ys) ∧ k = h1.nx ∧ k < h'.nx ∧ Gr (· = n) 1 h1 h', ?_, ⟨by omega, ?_⟩, ?_, ?_, ?_⟩
  · rw [rngW_len]; omega
  · refine ⟨[], rfl, rfl, Nat.zero_le _, ?_, new_get _ (by omega), rfl, Nat.lt_succ_self _, Gr.new _⟩
    obtain ⟨x, y, z, g, p, r⟩ := u1
    exact ⟨x, y, z, by rw [get_new (by omega), if_neg (by omega)]; exact g, p, by omega⟩
  · intro k i ys h' _
    exact srcR_at _ _ _ _
  · rintro k i w ys h' ew ⟨l, rfl, rfl, it, u, gk, rfl, kn, gr⟩ _
    rw [rngW_at] at ew
    split at ew
    · cases ew
      rw [w_gN]
      w_up
      refine w_take (et d) u (by omega) (by omega) (by omega) (by omega) fun x h2 x0 x1 u2 g2 => ?_
      have n2 : n ≠ h1.nx := by omega
      have gk2 : h2.get h1.nx = some (.lst (l.map .int)) := (g2.old _ kn (by omega)).trans gk
      have kn2 : h1.nx < h2.nx := Nat.lt_of_lt_of_le kn g2.le
      have l2 := g2.lt
      have l1 := gr.lt
      refine ⟨gk2, l ++ [x], by rw [List.map_append]; rfl, by rw [List.length_append]; rfl, by omega, ?_, by rw [get_set (by omega), if_pos rfl], kn2, ?_⟩
      · obtain ⟨x, y, z, g, p, r⟩ := u2
        exact ⟨x, y, z, by rw [get_set (by omega), if_neg n2]; exact g, p, by omega⟩
      · have g3 := gr.trans g2
        exact ⟨g3.le, by have := g3.lt; show h2.nx ≤ _; omega, fun j hj m => by rw [get_set (by omega), if_neg (by omega)]; exact g3.old j hj m, g3.lk⟩
    · cases ew
  · rintro k ys h' ⟨l, rfl, ln, it, u, gk, rfl, kn, gr⟩
    have b1 : bTup [.ref h1.nx] h' = .ok (.tup (l.map .int)) h' := by
      show (match rdL h' h1.nx with | some ws => Res.ok (W.tup ws) h' | none => .no) = _
      rw [rdL_of gk]
    refine wp_eq b1 ?_
    rw [rngW_len] at ln it
    rw [rngW_len] at u
    have gg := (g1.trans gr).mono (c2 := 1) (by omega) fun _ _ z => z
    exact q l h' (by omega) ((s.draw u gg).mono (Nat.le_refl _) (by omega)) gg
end
end L02
namespace L02
open PySem EV
noncomputable def rt (l : List Int) : List Int := if h : l ≠ [] then l.take (Classical.choose (exRt h)) else []
theorem rt_at {l : List Int} (hl : l ≠ []) : ∃ r, IsRt l r ∧ rt l = l.take r := by
  refine ⟨Classical.choose (exRt hl), Classical.choose_spec (exRt hl), ?_⟩
  unfold rt
  rw [dif_pos hl]
theorem rt_eq {u v : List Int} (hu : u ≠ []) (hv : v ≠ []) : rt u = rt v ↔ ∀ k, row u k = row v k := by
  obtain ⟨r, R, e⟩ := rt_at hu
  obtain ⟨s, S, f⟩ := rt_at hv
  rw [e, f]
  exact root_eq R S hu hv
theorem rt_row {u : List Int} (hu : u ≠ []) (k : Nat) : row (rt u) k = row u k := by
  obtain ⟨r, R, e⟩ := rt_at hu
  rw [e]
  exact R.row k
theorem rt_ne {u : List Int} (hu : u ≠ []) : rt u ≠ [] := by
  obtain ⟨r, R, e⟩ := rt_at hu
  rw [e]
  intro z
  have this : (u.take r).length = 0 := by rw [z]; rfl
  rw [List.length_take] at this
  have a := R.pos
  have b := R.le
  omega
theorem rt_len (u : List Int) : (rt u).length ≤ u.length := by
  unfold rt
  split
  · rw [List.length_take]; omega
  · exact Nat.zero_le _
theorem comm_iff {u v : List Int} (hu : u ≠ []) (hv : v ≠ []) : u ++ v = v ++ u ↔ ∀ k, row u k = row v k :=
  ⟨comm_rows hu hv, fun h => rows_comm fun k _ => h k⟩
theorem mem_ne {l : List Int} : ne l = true ↔ l ≠ [] := by
  cases l <;> simp [ne]
theorem allC_eq {fs : List (List Int)} {f one : List Int} (hf : f ∈ fs) (h1 : one ∈ fs) (hn : ∀ w ∈ fs, w ≠ []) : allC (rt f) fs = fs.all fun w => rt w == rt one := by
  have hfn := hn f hf
  have h1n := hn one h1
  rw [Bool.eq_iff_iff]
  unfold allC
  rw [List.all_eq_true, List.all_eq_true]
  have a : ∀ w ∈ fs, ((rt f ++ w == w ++ rt f) = true ↔ ∀ k, row f k = row w k) := fun w hw => by
    rw [beq_iff_eq, comm_iff (rt_ne hfn) (hn w hw)]
    exact ⟨fun q k => by rw [← q k, rt_row hfn], fun q k => by rw [rt_row hfn, q k]⟩
  constructor
  · intro q w hw
    rw [beq_iff_eq, rt_eq (hn w hw) h1n]
    intro k
    rw [← (a w hw).mp (q w hw) k, (a one h1).mp (q one h1) k]
  · intro q w hw
    rw [a w hw]
    intro k
    have e1 := (rt_eq (hn w hw) h1n).mp (beq_iff_eq.mp (q w hw)) k
    have e2 := (rt_eq hfn h1n).mp (beq_iff_eq.mp (q f hf)) k
    rw [e1, e2]
theorem all_mem {fs gs : List (List Int)} (h : ∀ w, w ∈ fs ↔ w ∈ gs) (p : List Int → Bool) : fs.all p = gs.all p := by
  rw [Bool.eq_iff_iff, List.all_eq_true, List.all_eq_true]
  exact ⟨fun q w hw => q w ((h w).mpr hw), fun q w hw => q w ((h w).mp hw)⟩
theorem like_comm {one own : List Int} (h1 : one ≠ []) : (one ++ own == own ++ one) = (own == [] || rt own == rt one) := by
  rw [Bool.eq_iff_iff, Bool.or_eq_true, beq_iff_eq, beq_iff_eq, beq_iff_eq]
  by_cases c : own = []
  · subst c
    simp
  · rw [comm_iff h1 c, rt_eq c h1]
    exact ⟨fun q => .inr fun k => (q k).symm, fun q k => (q.resolve_left c k).symm⟩
theorem like_comm2 {one own : List Int} (h1 : one ≠ []) : (own ++ one == one ++ own) = (own == [] || rt own == rt one) := by
  rw [← like_comm h1]
  rw [Bool.eq_iff_iff, beq_iff_eq, beq_iff_eq]
  exact ⟨Eq.symm, Eq.symm⟩
theorem like_rows {one own : List Int} (h1 : one ≠ []) : (own == [] || ((!(own == [])) && (List.range (one.length + own.length)).all fun k => row one k == row own k)) = (own == [] || rt own == rt one) := by
  by_cases c : own = []
  · subst c
    simp
  · rw [show (own == []) = false from beq_eq_false_iff_ne.mpr c]
    simp only [Bool.false_or, Bool.not_false, Bool.true_and]
    rw [Bool.eq_iff_iff, all_iff, beq_iff_eq, rt_eq c h1]
    constructor
    · intro q k
      exact (comm_rows h1 c (rows_comm fun j hj => beq_iff_eq.mp (q j hj)) k).symm
    · intro q k _
      exact beq_iff_eq.mpr (q k).symm
theorem apart_comm (l m : List Int) : apart m l = apart l m := by
  unfold apart
  rw [Nat.min_comm]
  congr 1
  funext k
  rw [Bool.eq_iff_iff, bne_iff_ne, bne_iff_ne]
  exact ⟨fun a b => a b.symm, fun a b => a b.symm⟩
theorem from_0 (l : List Int) : from_ l 0 l.length = l := by
  unfold from_
  simp only [Nat.zero_add]
  exact (self_cutR l).symm
theorem from_turn (l : List Int) (i n : Nat) (hn : n = l.length) (hl : 0 < n) : (from_ l i n).drop 1 ++ (from_ l i n).take 1 = from_ l (i + 1) n := by
  unfold from_
  rw [drop_cutR, take_cutR _ _ _ (by omega), app_cutR, show n - 1 + 1 = n by omega]
  refine cutR_congr fun j hj => ?_
  by_cases c : j < n - 1
  · rw [if_pos c]
    congr 1
    omega
  · rw [if_neg c, show j - (n - 1) = 0 by omega, show i + 1 + j = i + 0 + l.length by omega, row_add]
theorem from_far (l : List Int) (s n j : Nat) : from_ l (s + l.length * j) n = from_ l s n := by
  unfold from_
  refine cutR_congr fun k _ => ?_
  rw [show s + l.length * j + k = s + k + j * l.length by rw [Nat.mul_comm]; omega, row_mul]
theorem from_eq {l m : List Int} {s : Nat} : (from_ l s m.length == m) = (List.range m.length).all fun k => row l (s + k) == row m k := by
  rw [Bool.eq_iff_iff, beq_iff_eq, all_iff]
  constructor
  · intro e k hk
    rw [beq_iff_eq]
    have e2 : from_ l s m.length = cutR (row m) m.length := e.trans (self_cutR m)
    exact cutR_inj e2 k hk
  · intro q
    conv => rhs; rw [self_cutR m]
    exact cutR_congr fun k hk => beq_iff_eq.mp (q k hk)
theorem rep_self {l : List Int} {r : Nat} (hl : l ≠ []) (R : IsRt l r) : rep (l.take r) (l.length / r) = l := (okS_iff R.pos R.ok.1 hl).mpr R.ok
end L02
namespace L02
open PySem EV
abbrev D0 (Z : ZT) (n : Nat) : Po := ⟨fun _ _ => False, fun w h => w = .bl true ∧ h.lk = [] ∧ h.nx ≤ Z.1 + 1200000 ∧ Z.1 ≤ h.nx ∧ ∀ i, i < Z.1 → i ≠ n → h.get i = Z.2 i, fun _ _ => False, fun _ _ => False, fun _ _ _ => False⟩
structure Dt (one other third : List Int) : Prop where
  ne : one ≠ []
  l1 : one.length ≤ 16
  l2 : other.length ≤ 12
  l3 : third.length ≤ 8
  big : other.length + 8 ≤ 20 * one.length
structure Li (Z : ZT) (n a b : Nat) (xs ys : List W) (c : Int) (k : Nat) (h : Hpe) : Prop where
  st : StU Z n c k h
  ga : h.get a = some (.lst xs)
  gb : h.get b = some (.lst ys)
  al : a < h.nx
  bl : b < h.nx
  an : a ≠ n
  bn : b ≠ n
  lx : xs.length ≤ 60
  ly : ys.length ≤ 60
theorem Li.grow {Z : ZT} {n a b : Nat} {xs ys : List W} {c : Int} {k j : Nat} {h h' : Hpe} (s : Li Z n a b xs ys c k h) (gr : Gr noM j h h') : Li Z n a b xs ys c (k + j) h' :=
  ⟨s.st.grow gr, (gr.old a s.al fun z => z).trans s.ga, (gr.old b s.bl fun z => z).trans s.gb, Nat.lt_of_lt_of_le s.al gr.le, Nat.lt_of_lt_of_le s.bl gr.le, s.an, s.bn, s.lx, s.ly⟩
theorem Li.draw {Z : ZT} {n a b : Nat} {xs ys : List W} {c c' : Int} {k j : Nat} {h h' : Hpe} (s : Li Z n a b xs ys c k h) (u : UrnAt h' n c') (gr : Gr (· = n) j h h') : Li Z n a b xs ys c' (k + j) h' :=
  ⟨s.st.draw u gr, (gr.old a s.al s.an).trans s.ga, (gr.old b s.bl s.bn).trans s.gb, Nat.lt_of_lt_of_le s.al gr.le, Nat.lt_of_lt_of_le s.bl gr.le, s.an, s.bn, s.lx, s.ly⟩
theorem Li.mono {Z : ZT} {n a b : Nat} {xs ys : List W} {c c' : Int} {k j : Nat} {h : Hpe} (s : Li Z n a b xs ys c k h) (hk : k ≤ j) (hc : c ≤ c') : Li Z n a b xs ys c' j h :=
  ⟨s.st.mono hk hc, s.ga, s.gb, s.al, s.bl, s.an, s.bn, s.lx, s.ly⟩
theorem Li.heard {Z : ZT} {n a b a' : Nat} {xs ys zs : List W} {c : Int} {k : Nat} {h h' : Hpe} (s : Li Z n a b xs ys c k h) (gr : Gr noM 2 h h') (o : h.nx ≤ a') (al : a' < h'.nx) (ga : h'.get a' = some (.lst (xs ++ zs))) (l : xs.length + zs.length ≤ 60) : Li Z n a' b (xs ++ zs) ys c (k + 2) h' :=
  ⟨s.st.grow gr, ga, (gr.old b s.bl fun z => z).trans s.gb, al, Nat.lt_of_lt_of_le s.bl gr.le, by have := s.st.hn; omega, s.bn, by rw [List.length_append]; exact l, s.ly⟩
theorem Li.due {Z : ZT} {n a b b' : Nat} {xs ys zs : List W} {c : Int} {k : Nat} {h h' : Hpe} (s : Li Z n a b xs ys c k h) (gr : Gr noM 2 h h') (o : h.nx ≤ b') (bl : b' < h'.nx) (gb : h'.get b' = some (.lst (ys ++ zs))) (l : ys.length + zs.length ≤ 60) : Li Z n a b' xs (ys ++ zs) c (k + 2) h' :=
  ⟨s.st.grow gr, (gr.old a s.al fun z => z).trans s.ga, gb, Nat.lt_of_lt_of_le s.al gr.le, bl, s.an, by have := s.st.hn; omega, s.lx, by rw [List.length_append]; exact l⟩
section
local macro_rules | `(tactic| w_up) => `(tactic| simp only [w_seq, w_nil, w_rt, w_rtN, w_ex, w_as, w_if, w_par, w_rs, w_au, w_v, w_k, w_aN, w_aC, w_e2, w_tup, w_lst, w_cl, w_cl0, w_bl, w_asB, w_asT, w_tNt, w_tAn, w_tOr, w_tYs, w_eIf, w_eAn, w_eNtT, w_eOrT, w_oS, w_oN, w_eIs, w_eIs2, w_mt, w_mt0, wp_ok, wp_exc, List.getElem?_cons_zero, List.getElem?_cons_succ, List.set_cons_zero, List.set_cons_succ, Option.some.injEq, exists_eq_left', nc_int, nc_bl, nc_tup, nc_ref, nc_non, nc_str, true_and, and_true, List.length_cons, List.length_nil, List.map_cons, List.map_nil, W.bl.injEq, W.int.injEq, Bool.not_true, Bool.not_false, Bool.not_not, Bool.false_eq_true, if_true, if_false, iw_tup, iw_int, iw_bl, iw_str, iw_non, tr_bl, tr_int, tr_tup, tr_non, Bool.or_true, Bool.or_false, Bool.true_or, wipeR, qe_bl, qe_int, qe_non, isN_f, isN_t, beq_self_eq_true, bne_self_eq_false, Bool.false_bne, Bool.true_bne, o_gI, o_gI0, o_gB0, o_mulI, add_ii, o_mulW, o_addW, wd_fold, nc_wd, tr_wd, w_sl, sl_wd, cut_toN, cut_frN, qe_wd, len_wd])
variable {Z : ZT} {d n a b k : Nat} {h : Hpe} {xs ys : List W} {c : Int} {one other third : List Int} {s0 s1 s2 s3 s4 s5 s6 s7 s8 s9 s10 s11 s12 s13 s14 s15 s16 s17 s18 s19 : Option W}
theorem bd4 : bdS 4 100 = 1010101 := by decide
theorem same_at (w u : W) (h : Hpe) {B : Nat → Prop} (s : Sm h B 4 100 w u) (nx : h.nx ≤ 4000000) (lk : h.lk = []) : ∃ h', callE (d + 10) 13 [w, u] h = .ok (.bl true) h' ∧ Gr noM (bdS 4 100) h h' :=
  same_ok (C := fun d => callE d 13) (fun d ws h => by show callE (d + 1) 13 ws h = _; rw [callE_at, b13]) (by omega) 4 w u h s (by rw [bd4]; omega) lk (d + 10) (by omega)
theorem r17 (s : Li Z n a b xs ys c k h) (hk : k ≤ Z.1 + 1000 ∧ Z.1 ≤ 3000000) (sm : SmL h (· = n) xs ys) : (A_R17 (callE (d + 10)) [s0, s1, s2, s3, s4, s5, s6, some (.ref a), some (.ref b), s9, s10, s11, s12, s13, s14, s15, s16, s17, s18, s19] h).Wp (D0 Z n) := by
  unfold A_R17 A_S17
  w_up
  have q : Sm h (· = n) 4 100 (.ref a) (.ref b) := .lst s.ga s.gb s.al s.bl s.an s.bn sm.len (by have := s.lx; omega) sm.sm
  obtain ⟨h', e, gr⟩ := same_at (d := d) _ _ h q (by have := s.st.nx; omega) s.st.lk
  have x0 := gr.lt
  have x1 := s.st.nx
  have f := (s.st.grow gr).fr
  exact wp_eq e ⟨rfl, gr.lk.trans s.st.lk, by rw [bd4] at x0; omega, f.1, f.2⟩
theorem eq20 {i : Nat} (hi : i < 20 * one.length) {h : Hpe} {Q : W → Hpe → Prop} {E : Exc → Hpe → Prop} (q : Q (.int (row one i)) h) : (gIx2 (wd (rep one 20)) (.int (i : Int)) h).Wp Q E :=
  wp_eq (ix_wd (by omega) (by rw [Int.toNat_natCast]; exact rep_at hi)) q
theorem r16 (D : Dt one other third) {start many : Nat} (hs : start ≤ 8) (hm : many ≤ 6) (s : Li Z n a b xs ys c k h) (hk : k ≤ Z.1 + 900 ∧ Z.1 ≤ 3000000) (lx : xs.length ≤ 50)
    {zs : List W} (ex : zs = [wd (from_ one start one.length), wd (from_ one start one.length), wd (from_ one start many), .bl (from_ one start other.length == other), wd (from_ one start many)]) (sm : SmL h (· = n) xs (ys ++ zs)) :
    (A_R16 (callE (d + 10)) [some (.ref n), s1, some (wd one), some (wd other), s4, s5, s6, some (.ref a), some (.ref b), s9, s10, s11, s12, s13, s14, s15, s16, some (.int (start : Int)), some (wd (from_ one start one.length)), some (wd (from_ one start many))] h).Wp (D0 Z n) := by
  have nxb := s.st.nx
  have ly := s.ly
  unfold A_R16
  rw [w_seq]
  unfold A_S16
  with_reducible refine w_more (xs := ys) (a := b) rfl ?_
  w_up
  with_reducible refine w_allR other.length (fun k => row one (start + k) == row other k) ?_ ?_ ?_ ?_ ?_
  · have := D.l2; omega
  · omega
  · rw [w_iR1]
    w_up
    exact ⟨_, rfl, cR_of (by omega) (by have := D.l2; omega), fun i => by rw [srcR_at, Int.toNat_natCast]⟩
  · intro k hk
    have bg := D.big
    have l1 := D.l1
    rw [w_gN]
    w_up
    refine ⟨cM_of (by omega) (by omega) (by omega), ?_⟩
    rw [show ((start : Int) + (k : Int)) = ((start + k : Nat) : Int) by omega]
    refine eq20 (by omega) ?_
    rw [ix_row hk]
    w_up
  · intro h1 gr
    have s1 := s.grow gr
    refine ⟨by omega, by omega, by have := s1.st.nx; omega, s1.bl, s1.gb, fun h2 b' gr2 o2 l2 g2 => ?_⟩
    have ln : ys.length + 5 = xs.length := by rw [sm.len, List.length_append, ex]; rfl
    have s2 := s1.due gr2 o2 l2 g2 (by show ys.length + 5 ≤ 60; omega)
    have o3 : ∀ i, i < h.nx → ¬ i = n → h2.get i = h.get i := fun i hi _ => (gr2.old i (Nat.lt_of_lt_of_le hi gr.le) fun z => z).trans (gr.old i hi fun z => z)
    refine r17 s2 (by omega) ?_
    have sm2 := sm.mono o3 (Nat.le_trans gr.le gr2.le)
    rw [ex, from_eq] at sm2
    exact sm2
end
end L02
namespace L02
open PySem EV
section
local macro_rules | `(tactic| w_up) => `(tactic| simp only [w_seq, w_nil, w_rt, w_rtN, w_ex, w_as, w_if, w_par, w_rs, w_au, w_v, w_k, w_aN, w_aC, w_e2, w_tup, w_lst, w_cl, w_cl0, w_bl, w_asB, w_asT, w_tNt, w_tAn, w_tOr, w_tYs, w_eIf, w_eAn, w_eNtT, w_eOrT, w_oS, w_oN, w_eIs, w_eIs2, w_mt, w_mt0, wp_ok, wp_exc, List.getElem?_cons_zero, List.getElem?_cons_succ, List.set_cons_zero, List.set_cons_succ, Option.some.injEq, exists_eq_left', nc_int, nc_bl, nc_tup, nc_ref, nc_non, nc_str, true_and, and_true, List.length_cons, List.length_nil, List.map_cons, List.map_nil, W.bl.injEq, W.int.injEq, Bool.not_true, Bool.not_false, Bool.not_not, Bool.false_eq_true, if_true, if_false, iw_tup, iw_int, iw_bl, iw_str, iw_non, tr_bl, tr_int, tr_tup, tr_non, Bool.or_true, Bool.or_false, Bool.true_or, wipeR, qe_bl, qe_int, qe_non, isN_f, isN_t, beq_self_eq_true, bne_self_eq_false, Bool.false_bne, Bool.true_bne, o_gI, o_gI0, o_gB0, o_mulI, add_ii, o_mulW, o_addW, wd_fold, nc_wd, tr_wd, w_sl, sl_wd, cut_toN, cut_frN, qe_wd, len_wd])
variable {Z : ZT} {d n a b k : Nat} {h : Hpe} {xs ys : List W} {c : Int} {one other third : List Int} {s0 s1 s2 s3 s4 s5 s6 s7 s8 s9 s10 s11 s12 s13 s14 s15 s16 s17 s18 s19 : Option W}
theorem tup_lst {n : Nat} {ws : List W} {h : Hpe} {Q : W → Hpe → Prop} {E : Exc → Hpe → Prop} (g : h.get n = some (.lst ws)) (q : Q (.tup ws) h) : (bTup [.ref n] h).Wp Q E := by
  refine wp_eq (a := .tup ws) (h' := h) ?_ q
  show (match rdL h n with | some ws => Res.ok (W.tup ws) h | none => .no) = _
  rw [rdL_of g]
theorem r15 (D : Dt one other third) {start many : Nat} (hs : start ≤ 8) (hm : many ≤ 6) (s : Li Z n a b xs ys c k h) (hk : k ≤ Z.1 + 890 ∧ Z.1 ≤ 3000000) (lx : xs.length ≤ 50)
    {zs : List W} (ex : zs = [wd (from_ one start one.length), wd (from_ one start one.length), wd (from_ one start many), .bl (from_ one start other.length == other), wd (from_ one start many)]) (sm : SmL h (· = n) xs (ys ++ zs)) :
    (A_R15 (callE (d + 10)) [some (.ref n), s1, some (wd one), some (wd other), s4, s5, some (.int (many : Int)), some (.ref a), some (.ref b), s9, s10, s11, s12, s13, s14, s15, s16, some (.int (start : Int)), some (wd (from_ one start one.length)), s19] h).Wp (D0 Z n) := by
  have nxb := s.st.nx
  have pl := ne_pos D.ne
  unfold A_R15
  rw [w_seq]
  unfold A_S15
  w_up
  with_reducible refine w_lcP (rngW 0 many) ((from_ one start many).map .int) ?_ ?_ ?_ ?_ ?_ ?_
  · rw [rngW_len]; omega
  · rw [rngW_len, List.length_map]; exact cutR_len _ _
  · omega
  · rw [w_iR1]
    w_up
    exact ⟨_, rfl, cR_of (by omega) (by omega), fun i => by rw [srcR_at, Int.toNat_natCast]⟩
  · intro i w y ew ey
    rw [rngW_at] at ew
    by_cases hi : i < many
    · rw [if_pos hi] at ew
      cases ew
      rw [List.getElem?_map] at ey
      unfold from_ at ey
      rw [cutR_at, if_pos hi] at ey
      cases ey
      rw [w_gN]
      w_up
      refine ⟨cM_of (by omega) (by omega) (by have := D.l1; omega), ?_⟩
      rw [show ((start : Int) + (0 + (i : Int))) = ((start + i : Nat) : Int) by omega]
      exact eq20 (by omega) ⟨rfl, rfl⟩
    · rw [if_neg hi] at ew; cases ew
  · refine tup_lst (new_get _ (by omega)) ?_
    have gr : Gr noM 1 h (h.new (.lst ((from_ one start many).map .int))) := Gr.new _
    exact r16 D hs hm (s.grow gr) (by omega) lx ex (sm.mono (fun i hi _ => gr.old i hi fun z => z) gr.le)
theorem r14 (D : Dt one other third) {start many : Nat} (hs : start ≤ 8) (hm : many ≤ 6) (s : Li Z n a b xs ys c k h) (hk : k ≤ Z.1 + 880 ∧ Z.1 ≤ 3000000) (lx : xs.length ≤ 45) (sm : SmL h (· = n) xs ys) :
    (A_R14 (callE (d + 10)) [some (.ref n), s1, some (wd one), some (wd other), s4, s5, some (.int (many : Int)), some (.ref a), some (.ref b), s9, s10, s11, s12, s13, s14, s15, s16, some (.int (start : Int)), some (wd (from_ one start one.length)), s19] h).Wp (D0 Z n) := by
  have nxb := s.st.nx
  have pl := ne_pos D.ne
  have l1 := D.l1
  have l2 := D.l2
  unfold A_R14
  rw [w_seq]
  unfold A_S14
  with_reducible refine w_more (xs := xs) (a := a) rfl ?_
  w_up
  refine wp_eq (turn (d := d + 7) D.ne (by omega)) ?_
  refine ⟨by decide, cMul_R (by decide) (by decide), ?_⟩
  have far : ((start : Int) + (one.length : Int) * (10 : Int) ^ (9 : Int).toNat) = ((start + one.length * 1000000000 : Nat) : Int) := by
    rw [show (10 : Int) ^ (9 : Int).toNat = 1000000000 by decide]
    omega
  rw [far]
  refine wp_eq (turn (d := d + 7) D.ne (by omega)) ?_
  refine wp_eq (piece (d := d + 7) D.ne (by omega) (by omega)) ?_
  refine wp_eq (isPiece (d := d + 6) D.ne (by omega) (by omega)) ?_
  refine ⟨by decide, cMul_R (by decide) (by decide), ?_⟩
  refine wp_eq (piece (d := d + 7) D.ne (by omega) (by omega)) ?_
  rw [from_far, from_far]
  refine ⟨by omega, by omega, by omega, s.al, s.ga, fun h2 a' gr o al g => ?_⟩
  have s2 := s.heard gr o al g (by show xs.length + 5 ≤ 60; omega)
  refine r15 D hs hm s2 (by omega) (by rw [List.length_append]; show xs.length + 5 ≤ 50; omega) rfl ?_
  refine (sm.mono (fun i hi _ => gr.old i hi fun z => z) gr.le).app ?_
  have f1 : (from_ one start one.length).length = one.length := cutR_len _ _
  have f2 : (from_ one start many).length = many := cutR_len _ _
  exact .cons (sm_map _ (by omega)) (.cons (sm_map _ (by omega)) (.cons (sm_map _ (by omega)) (.cons (.bl _) (.cons (sm_map _ (by omega)) .nil))))
theorem r12 (D : Dt one other third) {start many : Nat} (hs : start ≤ 8) (hm : many ≤ 6) (s : Li Z n a b xs ys c k h) (hk : k ≤ Z.1 + 870 ∧ Z.1 ≤ 3000000) (lx : xs.length ≤ 45) (sm : SmL h (· = n) xs ys) :
    (A_R12 (callE (d + 10)) [some (.ref n), s1, some (wd one), some (wd other), s4, s5, some (.int (many : Int)), some (.ref a), some (.ref b), s9, s10, s11, s12, s13, s14, s15, s16, some (.int (start : Int)), s18, s19] h).Wp (D0 Z n) := by
  have pl := ne_pos D.ne
  have l1 := D.l1
  unfold A_R12
  rw [w_seq]
  unfold A_S12
  w_up
  unfold A_R13
  rw [w_seq]
  unfold A_S13
  with_reducible refine w_for (rngW 0 start) (fun i ρ h' => h' = h ∧ ∃ s13, ρ = [some (.ref n), s1, some (wd one), some (wd other), s4, s5, some (.int (many : Int)), some (.ref a), some (.ref b), s9, s10, s11, s12, s13, s14, s15, s16, some (.int (start : Int)), some (wd (from_ one i one.length)), s19]) ?_ ?_ ?_ ?_
  · rw [rngW_len]; omega
  · rw [w_iR1]
    w_up
    refine ⟨_, rfl, cR_of (by omega) (by omega), ⟨s13, by rw [from_0]⟩, fun i ρ h _ => by rw [srcR_at, Int.toNat_natCast]⟩
  · rintro i w ρ h' ew ⟨rfl, s13, rfl⟩
    rw [rngW_at] at ew
    split at ew
    · cases ew
      rw [w_gN]
      w_up
      have e1 := cut_frN (l := from_ one i one.length) (k := 1)
      have e2 := cut_toN (l := from_ one i one.length) (k := 1)
      rw [show ((1 : Nat) : Int) = 1 from rfl] at e1 e2
      rw [e1, e2]
      w_up
      rw [from_turn one i one.length rfl pl]
      have f1 : (from_ one i one.length).length = one.length := cutR_len _ _
      refine ⟨?_, _, rfl⟩
      rw [List.length_drop, List.length_take]
      omega
    · cases ew
  · rintro ρ h' ⟨rfl, s13, rfl⟩
    rw [rngW_len]
    exact r14 D hs hm s (by omega) lx sm
theorem r11 (D : Dt one other third) {many : Nat} (hm : many ≤ 6) (s : Li Z n a b xs ys c k h) (hk : k ≤ Z.1 + 860 ∧ Z.1 ≤ 3000000) (hc : c < 1000) (lx : xs.length ≤ 45) (sm : SmL h (· = n) xs ys) :
    (A_R11 (callE (d + 10)) [some (.ref n), s1, some (wd one), some (wd other), s4, s5, some (.int (many : Int)), some (.ref a), some (.ref b), s9, s10, s11, s12, s13, s14, s15, s16, s17, s18, s19] h).Wp (D0 Z n) := by
  unfold A_R11
  rw [w_seq]
  unfold A_S11
  w_up
  have nxb := s.st.nx
  have nb := s.st.hn
  refine w_take (T := callE (d + 10)) (et (d + 9)) s.st.urn (by omega) (by decide) (by decide) (by omega) fun t h1 t0 t1 u gr => ?_
  obtain ⟨start, rfl⟩ : ∃ start : Nat, t = start := ⟨t.toNat, by omega⟩
  exact r12 D (by omega) hm (s.draw u gr) (by omega) lx (sm.mono (fun i hi m => gr.old i hi m) gr.le)
end
end L02
namespace L02
open PySem EV
section
local macro_rules | `(tactic| w_up) => `(tactic| simp only [w_seq, w_nil, w_rt, w_rtN, w_ex, w_as, w_if, w_par, w_rs, w_au, w_v, w_k, w_aN, w_aC, w_e2, w_tup, w_lst, w_cl, w_cl0, w_bl, w_asB, w_asT, w_tNt, w_tAn, w_tOr, w_tYs, w_eIf, w_eAn, w_eNtT, w_eOrT, w_oS, w_oN, w_eIs, w_eIs2, w_mt, w_mt0, wp_ok, wp_exc, List.getElem?_cons_zero, List.getElem?_cons_succ, List.set_cons_zero, List.set_cons_succ, Option.some.injEq, exists_eq_left', nc_int, nc_bl, nc_tup, nc_ref, nc_non, nc_str, true_and, and_true, List.length_cons, List.length_nil, List.map_cons, List.map_nil, W.bl.injEq, W.int.injEq, Bool.not_true, Bool.not_false, Bool.not_not, Bool.false_eq_true, if_true, if_false, iw_tup, iw_int, iw_bl, iw_str, iw_non, tr_bl, tr_int, tr_tup, tr_non, Bool.or_true, Bool.or_false, Bool.true_or, wipeR, qe_bl, qe_int, qe_non, isN_f, isN_t, beq_self_eq_true, bne_self_eq_false, Bool.false_bne, Bool.true_bne, o_gI, o_gI0, o_gB0, o_mulI, add_ii, o_mulW, o_addW, wd_fold, nc_wd, tr_wd, w_sl, sl_wd, cut_toN, cut_frN, qe_wd, len_wd])
variable {Z : ZT} {d n a b k : Nat} {h : Hpe} {xs ys : List W} {c : Int} {one other third : List Int} {s0 s1 s2 s3 s4 s5 s6 s7 s8 s9 s10 s11 s12 s13 s14 s15 s16 s17 s18 s19 : Option W}
theorem w_mulL {k : Nat} {j : Int} {ws : List W} {h : Hpe} {Q : W → Hpe → Prop} {E : Exc → Hpe → Prop} (g : h.get k = some (.lst ws)) (cm : cM j ws.length = true) (nx : h.nx < 1000000000) (q : Q (.ref h.nx) (h.new (.lst (List.replicate j.toNat ws).flatten))) : (gMul (.ref k) (.int j) h).Wp Q E := by
  unfold gMul
  dsimp only
  rw [g]
  dsimp only
  rw [cm]
  show (h.al _).Wp Q E
  rw [w_al]
  exact ⟨by omega, q⟩
noncomputable def ak (one : List Int) (ws : List (List Int)) : Bool := (ws.filter ne).all fun w => rt w == rt one
theorem lcom {ws : List (List Int)} (hw : ∀ w ∈ ws, w.length ≤ 1000) (hn : ws.length ≤ 10) (h1 : one ≠ []) (ho : one ∈ ws) {Q : W → Hpe → Prop} {E : Exc → Hpe → Prop} (nx : h.nx < 1000000000)
    (qt : ak one ws = true → Q (wd (rt one)) h) (qf : ak one ws = false → Q (.ref h.nx) (h.new (.lst [.str "none"]))) : (callE (d + 5) 16 [.tup (ws.map wd)] h).Wp Q E := by
  have mo : one ∈ ws.filter ne := List.mem_filter.mpr ⟨ho, mem_ne.mpr h1⟩
  have nn : ∀ w ∈ ws.filter ne, w ≠ [] := fun w hw => mem_ne.mp (List.mem_filter.mp hw).2
  cases e : ws.filter ne with
  | nil => rw [e] at mo; cases mo
  | cons f fs =>
    rw [e] at mo nn
    have fm : f ∈ f :: fs := List.mem_cons_self ..
    obtain ⟨r, R, er⟩ := rt_at (nn f fm)
    have ea := allC_eq fm mo nn
    have e2 : ak one ws = allC (f.take r) (f :: fs) := by unfold ak; rw [e, ← er, ea]
    refine lcommon hw hn e R nx (fun q => ?_) (fun q => qf (by rw [e2]; exact q))
    have q2 : ak one ws = true := by rw [e2]; exact q
    have q3 := qt q2
    unfold ak at q2
    rw [e, List.all_eq_true] at q2
    rw [← er, beq_iff_eq.mp (q2 f fm)]
    exact q3
theorem lrt (hl : one ≠ []) (len : one.length ≤ 1000) : ∃ q : Nat, ∀ h, callE (d + 1) 15 [wd one] h = .ok (.tup [wd (rt one), .int (q : Int)]) h := by
  obtain ⟨r, R, e⟩ := rt_at hl
  exact ⟨one.length / r, fun h => by rw [e]; exact lroot hl len R⟩
def Ends (h : Hpe) (n : Nat) (al : Bool) (r : List Int) (zs : List W) : Prop :=
  if al = true then zs = [wd r, wd r] else ∃ i j, zs = [.ref i, .ref j] ∧ h.get i = some (.lst [.str "none"]) ∧ h.get j = some (.lst [.str "none"]) ∧ i < h.nx ∧ j < h.nx ∧ i ≠ n ∧ j ≠ n
theorem eq_none {h : Hpe} : gEq false (.str "none") (.str "none") h = .ok (.bl true) h := by
  have e1 : SeqAt.shaped (.str "none") = true := by decide +kernel
  have e2 : PyData.eqv (.str "none") (.str "none") = true := by decide +kernel
  unfold gEq
  show (bif SeqAt.shaped (.str "none") && SeqAt.shaped (.str "none") then Res.ok (W.bl (false != PyData.eqv (.str "none") (.str "none"))) h else .no) = _
  rw [e1, e2]
  rfl
theorem sm_none {h : Hpe} {i j n : Nat} (gi : h.get i = some (.lst [.str "none"])) (gj : h.get j = some (.lst [.str "none"])) (hi : i < h.nx) (hj : j < h.nx) (ni : i ≠ n) (nj : j ≠ n) : Sm h (· = n) 3 100 (.ref i) (.ref j) := by
  refine .lst gi gj hi hj ni nj rfl (by decide) fun k w u e1 e2 => ?_
  match k with
  | 0 =>
    cases e1
    cases e2
    exact .str _ fun h => eq_none
  | k + 1 => simp at e1
theorem r10 (D : Dt one other third) {many : Nat} (hm : many ≤ 6) {al : Bool} {q : Int} {zs : List W} (s : Li Z n a b (xs ++ zs) ys c k h) (hk : k ≤ Z.1 + 800 ∧ Z.1 ≤ 3000000) (hc : c < 1000) (lx : xs.length ≤ 30) (sm : SmL h (· = n) xs ys) (en : Ends h n al (rt one) zs) :
    (A_R10 (callE (d + 10)) [some (.ref n), s1, some (wd one), some (wd other), s4, some (.tup [wd (rt one), .int q]), some (.int (many : Int)), some (.ref a), some (.ref b), s9, s10, s11, s12, s13, s14, s15, some (.bl al), s17, s18, s19] h).Wp (D0 Z n) := by
  have nxb := s.st.nx
  have nb := s.st.hn
  have l1 := D.l1
  have lr := rt_len one
  have ly := sm.len
  unfold A_R10
  rw [w_seq]
  unfold A_S10
  w_up
  have fin : ∀ (v : W) (h1 : Hpe), Gr noM 1 h h1 → ((Sm h1 (· = n) 3 100 (zs.getD 0 .non) v) ∧ Sm h1 (· = n) 3 100 (zs.getD 1 .non) v ∧ zs.length = 2) → (line (0 + 1) = true ∧ h1.nx < 1099511627776 ∧
      (gMul (.ref h1.nx) (.int 2) (h1.new (.lst [v]))).Wp (fun b_1 h2 => (gAdd (.ref b) b_1 h2).Wp (fun w h => (A_R11 (callE (d + 10)) [some (.ref n), s1, some (wd one), some (wd other), s4, some (.tup [wd (rt one), .int q]), some (.int (many : Int)), some (.ref a), some (w), s9, s10, s11, s12, s13, s14, s15, some (.bl al), s17, s18, s19] h).Wp (D0 Z n)) (fun x h => False)) (fun x h => False)) := by
    rintro v h1 gr ⟨s0, s1', lz⟩
    have x1 := gr.lt
    refine ⟨rfl, by omega, ?_⟩
    refine w_mulL (new_get _ (by omega)) (cM_of (by omega) (by omega) (by show 1 ≤ 1000; omega)) (by show h1.nx + 1 < _; omega) ?_
    have g2 : Gr noM 2 h1 ((h1.new (.lst [v])).new (.lst [v, v])) := (Gr.new (M := noM) _).trans (Gr.new _)
    have s3 := (s.grow gr).grow g2
    generalize hh : (h1.new (.lst [v])).new (.lst (List.replicate (2 : Int).toNat [v]).flatten) = h2
    have hh2 : (h1.new (.lst [v])).new (.lst [v, v]) = h2 := hh
    rw [hh2] at g2 s3
    have gk : h2.get (h1.new (.lst [v])).nx = some (.lst [v, v]) := by rw [← hh2]; exact new_get _ (by show h1.nx + 1 + 1 < _; omega)
    have n2 : h2.nx = h1.nx + 2 := by rw [← hh2]; rfl
    refine w_addL s3.gb gk (by have := s3.ly; show _ + 2 ≤ _; omega) (by omega) ?_
    have g3 : Gr noM 1 h2 (h2.new (.lst (ys ++ [v, v]))) := Gr.new _
    have s4 : Li Z n a h2.nx (xs ++ zs) (ys ++ [v, v]) c (k + 1 + 2 + 1) (h2.new (.lst (ys ++ [v, v]))) :=
      ⟨s3.st.grow g3, (g3.old a s3.al fun z => z).trans s3.ga, new_get _ (by omega), Nat.lt_of_lt_of_le s3.al g3.le, Nat.lt_succ_self _, s3.an, by have := s3.st.hn; omega, s3.lx, by rw [List.length_append]; show _ + 2 ≤ _; omega⟩
    refine r11 D hm s4 (by omega) hc (by rw [List.length_append, lz]; omega) ?_
    have gg := (gr.trans g2).trans g3
    have g13 := g2.trans g3
    refine (sm.mono (fun i hi _ => gg.old i hi fun z => z) gg.le).app ?_
    match zs, lz with
    | [z0, z1], _ =>
      have t0 := s0.mono (fun i hi _ => g13.old i hi fun z => z) g13.le (Nat.le_refl _) (Nat.le_refl _)
      have t1 := s1'.mono (fun i hi _ => g13.old i hi fun z => z) g13.le (Nat.le_refl _) (Nat.le_refl _)
      exact .cons t0 (.cons t1 .nil)
  unfold Ends at en
  cases al with
  | true =>
    simp only [if_true] at en ⊢
    refine wp_eq (ix_t (atI_0 _ _)) ?_
    subst en
    exact fin _ h Gr.refl ⟨sm_map _ (by omega), sm_map _ (by omega), rfl⟩
  | false =>
    simp only [Bool.false_eq_true, if_false] at en ⊢
    obtain ⟨i, j, rfl, gi, gj, hi, hj, ni, nj⟩ := en
    have gr : Gr noM 1 h (h.new (.lst [.str "none"])) := Gr.new _
    refine ⟨by decide, by omega, ?_⟩
    have g0 : (h.new (.lst [.str "none"])).get h.nx = some (.lst [.str "none"]) := new_get _ (by omega)
    have i2 : i < (h.new (.lst [.str "none"])).nx := Nat.lt_of_lt_of_le hi gr.le
    have j2 : j < (h.new (.lst [.str "none"])).nx := Nat.lt_of_lt_of_le hj gr.le
    exact fin _ _ gr ⟨sm_none ((gr.old i hi fun z => z).trans gi) g0 i2 (Nat.lt_succ_self _) ni (by omega), sm_none ((gr.old j hj fun z => z).trans gj) g0 j2 (Nat.lt_succ_self _) nj (by omega), rfl⟩
end
end L02
namespace L02
open PySem EV
section
local macro_rules | `(tactic| w_up) => `(tactic| simp only [w_seq, w_nil, w_rt, w_rtN, w_ex, w_as, w_if, w_par, w_rs, w_au, w_v, w_k, w_aN, w_aC, w_e2, w_tup, w_lst, w_cl, w_cl0, w_bl, w_asB, w_asT, w_tNt, w_tAn, w_tOr, w_tYs, w_eIf, w_eAn, w_eNtT, w_eOrT, w_oS, w_oN, w_eIs, w_eIs2, w_mt, w_mt0, wp_ok, wp_exc, List.getElem?_cons_zero, List.getElem?_cons_succ, List.set_cons_zero, List.set_cons_succ, Option.some.injEq, exists_eq_left', nc_int, nc_bl, nc_tup, nc_ref, nc_non, nc_str, true_and, and_true, List.length_cons, List.length_nil, List.map_cons, List.map_nil, W.bl.injEq, W.int.injEq, Bool.not_true, Bool.not_false, Bool.not_not, Bool.false_eq_true, if_true, if_false, iw_tup, iw_int, iw_bl, iw_str, iw_non, tr_bl, tr_int, tr_tup, tr_non, Bool.or_true, Bool.or_false, Bool.true_or, wipeR, qe_bl, qe_int, qe_non, isN_f, isN_t, beq_self_eq_true, bne_self_eq_false, Bool.false_bne, Bool.true_bne, o_gI, o_gI0, o_gB0, o_mulI, add_ii, o_mulW, o_addW, wd_fold, nc_wd, tr_wd, w_sl, sl_wd, cut_toN, cut_frN, qe_wd, len_wd])
variable {Z : ZT} {d n a b k : Nat} {h : Hpe} {xs ys : List W} {c : Int} {one other third : List Int} {s0 s1 s2 s3 s4 s5 s6 s7 s8 s9 s10 s11 s12 s13 s14 s15 s16 s17 s18 s19 : Option W}
theorem ak_turn (one other third : List Int) : ak one [third, other, one] = ak one [one, other, third] := by
  unfold ak
  refine all_mem (fun w => ?_) _
  rw [List.mem_filter, List.mem_filter]
  simp only [List.mem_cons, List.not_mem_nil, or_false]
  constructor
  · rintro ⟨a | a | a, q⟩
    · exact ⟨.inr (.inr a), q⟩
    · exact ⟨.inr (.inl a), q⟩
    · exact ⟨.inl a, q⟩
  · rintro ⟨a | a | a, q⟩
    · exact ⟨.inr (.inr a), q⟩
    · exact ⟨.inr (.inl a), q⟩
    · exact ⟨.inl a, q⟩
theorem r9 (D : Dt one other third) {many : Nat} (hm : many ≤ 6) {al : Bool} (ea : al = ak one [one, other, third]) {q : Int} (s : Li Z n a b xs ys c k h) (hk : k ≤ Z.1 + 790 ∧ Z.1 ≤ 3000000) (hc : c < 1000) (lx : xs.length ≤ 30) (sm : SmL h (· = n) xs ys) :
    (A_R9 (callE (d + 10)) [some (.ref n), s1, some (wd one), some (wd other), some (wd third), some (.tup [wd (rt one), .int q]), some (.int (many : Int)), some (.ref a), some (.ref b), s9, s10, s11, s12, s13, s14, s15, some (.bl al), s17, s18, s19] h).Wp (D0 Z n) := by
  have nxb := s.st.nx
  have nb := s.st.hn
  have l1 := D.l1
  have l2 := D.l2
  have l3 := D.l3
  unfold A_R9
  rw [w_seq]
  unfold A_S9
  with_reducible refine w_more (xs := xs) (a := a) rfl ?_
  w_up
  have hw : ∀ w ∈ [one, other, third], w.length ≤ 1000 := fun w hw => by
    simp only [List.mem_cons, List.not_mem_nil, or_false] at hw
    rcases hw with rfl | rfl | rfl <;> omega
  have hw2 : ∀ w ∈ [third, other, one], w.length ≤ 1000 := fun w hw => by
    simp only [List.mem_cons, List.not_mem_nil, or_false] at hw
    rcases hw with rfl | rfl | rfl <;> omega
  refine ⟨rfl, ?_⟩
  have two : ∀ (v : W) (h1 : Hpe), Gr noM 1 h h1 → noClo v = true → (al = true → v = wd (rt one)) → (al = false → ∃ i, v = .ref i ∧ h1.get i = some (.lst [.str "none"]) ∧ i < h1.nx ∧ i ≠ n) →
      (line (0 + 1 + 1 + 1) = true ∧ (callE (d + 10) 16 [.tup [wd third, wd other, wd one]] h1).Wp (fun w h2 => 0 + 1 + 1 ≤ 1000 ∧ xs.length ≤ 1000 ∧ h2.nx < 100000000 ∧ a < h2.nx ∧ h2.get a = some (.lst xs) ∧ ∀ (h3 : Hpe) (a' : Nat), Gr noM 2 h2 h3 → h2.nx ≤ a' → a' < h3.nx → h3.get a' = some (.lst (xs ++ [v, w])) →
        (A_R10 (callE (d + 10)) [some (.ref n), s1, some (wd one), some (wd other), some (wd third), some (.tup [wd (rt one), .int q]), some (.int (many : Int)), some (.ref a'), some (.ref b), s9, s10, s11, s12, s13, s14, s15, some (.bl al), s17, s18, s19] h3).Wp (D0 Z n)) (fun x h => False)) := by
    intro v h1 gr nc vt vf
    have x1 := gr.lt
    have x0 := gr.le
    have sl1 := s.grow gr
    refine ⟨rfl, ?_⟩
    have last : ∀ (w : W) (h2 : Hpe), Gr noM 1 h1 h2 → (al = true → w = wd (rt one)) → (al = false → ∃ i, w = .ref i ∧ h2.get i = some (.lst [.str "none"]) ∧ i < h2.nx ∧ i ≠ n) → 0 + 1 + 1 ≤ 1000 ∧ xs.length ≤ 1000 ∧ h2.nx < 100000000 ∧ a < h2.nx ∧ h2.get a = some (.lst xs) ∧ ∀ (h3 : Hpe) (a' : Nat), Gr noM 2 h2 h3 → h2.nx ≤ a' → a' < h3.nx → h3.get a' = some (.lst (xs ++ [v, w])) →
        (A_R10 (callE (d + 10)) [some (.ref n), s1, some (wd one), some (wd other), some (wd third), some (.tup [wd (rt one), .int q]), some (.int (many : Int)), some (.ref a'), some (.ref b), s9, s10, s11, s12, s13, s14, s15, some (.bl al), s17, s18, s19] h3).Wp (D0 Z n) := by
      intro w h2 gr2 wt wf
      have sl2 := sl1.grow gr2
      have x2 := gr2.lt
      refine ⟨by omega, by omega, by omega, sl2.al, sl2.ga, fun h3 a' gr3 o al' g => ?_⟩
      have sl3 := sl2.heard gr3 o al' g (by show xs.length + 2 ≤ 60; omega)
      have gg := (gr.trans gr2).trans gr3
      refine r10 D hm sl3 (by omega) hc lx (sm.mono (fun i hi _ => gg.old i hi fun z => z) gg.le) ?_
      unfold Ends
      cases al with
      | true => rw [if_pos rfl, vt rfl, wt rfl]
      | false =>
        rw [if_neg (by decide)]
        obtain ⟨i, ei, gi, hi, ni⟩ := vf rfl
        obtain ⟨j, ej, gj, hj, nj⟩ := wf rfl
        have g23 := gr2.trans gr3
        exact ⟨i, j, by rw [ei, ej], (g23.old i hi fun z => z).trans gi, (gr3.old j hj fun z => z).trans gj, Nat.lt_of_lt_of_le hi g23.le, Nat.lt_of_lt_of_le hj gr3.le, ni, nj⟩
    refine lcom (d := d + 5) (ws := [third, other, one]) hw2 (by show 3 ≤ 10; omega) D.ne (by simp) (by omega) (fun z => ?_) (fun z => ?_)
    · rw [ak_turn, ← ea] at z
      exact last _ _ Gr.refl (fun _ => rfl) (fun e => by rw [z] at e; cases e)
    · rw [ak_turn, ← ea] at z
      exact last _ _ (Gr.new _) (fun e => by rw [z] at e; cases e) (fun _ => ⟨_, rfl, new_get _ (by omega), Nat.lt_succ_self _, by omega⟩)
  refine lcom (d := d + 5) (ws := [one, other, third]) hw (by show 3 ≤ 10; omega) D.ne (by simp) (by omega) (fun z => ?_) (fun z => ?_)
  · rw [← ea] at z
    exact two _ _ Gr.refl rfl (fun _ => rfl) (fun e => by rw [z] at e; cases e)
  · rw [← ea] at z
    exact two _ _ (Gr.new _) rfl (fun e => by rw [z] at e; cases e) (fun _ => ⟨_, rfl, new_get _ (by omega), Nat.lt_succ_self _, by omega⟩)
theorem r8 (D : Dt one other third) {many : Nat} (hm : many ≤ 6) {q : Int} {f : Nat} (s : Li Z n a b xs ys c k h) (hk : k ≤ Z.1 + 780 ∧ Z.1 ≤ 3000000) (hc : c < 1000) (lx : xs.length ≤ 30) (sm : SmL h (· = n) xs ys) (gf : h.get f = some (.lst (([one, other, third].filter ne).map wd))) (hf : f < h.nx) :
    (A_R8 (callE (d + 10)) [some (.ref n), s1, some (wd one), some (wd other), some (wd third), some (.tup [wd (rt one), .int q]), some (.int (many : Int)), some (.ref a), some (.ref b), s9, s10, s11, s12, s13, s14, some (.ref f), s16, s17, s18, s19] h).Wp (D0 Z n) := by
  have nxb := s.st.nx
  have nb := s.st.hn
  have l1 := D.l1
  have l2 := D.l2
  have l3 := D.l3
  have lk := s.st.lk
  have fl : ([one, other, third].filter ne).length ≤ 3 := List.length_filter_le _ _
  have fm : ∀ w ∈ [one, other, third].filter ne, w ≠ [] ∧ w.length ≤ 1000 := fun w hw => by
    refine ⟨mem_ne.mp (List.mem_filter.mp hw).2, ?_⟩
    have := (List.mem_filter.mp hw).1
    simp only [List.mem_cons, List.not_mem_nil, or_false] at this
    rcases this with rfl | rfl | rfl <;> omega
  have ake : ak one [one, other, third] = ([one, other, third].filter ne).all fun w => rt w == rt one := rfl
  generalize [one, other, third].filter ne = fs at gf fl fm ake
  unfold A_R8
  rw [w_seq]
  unfold A_S8
  rw [w_un]
  w_up
  with_reducible refine w_compL (fs.map wd) (fun z i ws h' => z = h.nx ∧ z < h'.nx ∧ i ≤ fs.length ∧ h'.get z = some (.lst ws) ∧ ws = (fs.take i).map (fun w => W.bl (rt w == rt one)) ∧ Gr noM 1 h h') ?_ ?_ ?_ ?_
  · rw [List.length_map]; omega
  · refine w_iL ?_
    w_up
    refine ⟨f, _, rfl, gf, ⟨by omega, Nat.lt_succ_self _, Nat.zero_le _, new_get _ (by omega), rfl, Gr.new _⟩, ?_⟩
    rintro z i ws h' ⟨_, _, _, _, _, gr⟩
    exact srcL_at (rdL_of ((gr.old f hf fun z => z).trans gf)) i
  · rintro z i w ws h' ew ⟨rfl, zl, hi, gz, rfl, gr⟩ _
    rw [List.getElem?_map] at ew
    cases e : fs[i]? with
    | none => rw [e] at ew; cases ew
    | some v =>
      rw [e] at ew
      cases ew
      have vm := fm v (List.mem_of_getElem? e)
      have lt := (List.getElem?_eq_some_iff.mp e).1
      have gl := gr.lt
      obtain ⟨m, em⟩ := lrt (d := d + 9) vm.1 vm.2
      rw [w_gN]
      w_up
      refine wp_eq (em _) ?_
      refine wp_eq (ix_t (atI_0 _ _)) ?_
      refine wp_eq (ix_t (atI_0 _ _)) ?_
      w_up
      refine ⟨gz, zl, by omega, by rw [get_set (by omega), if_pos rfl], ?_, ?_⟩
      · rw [List.take_add_one, e, List.map_append]
        rfl
      · exact ⟨gr.le, gr.lt, fun j hj m => by rw [get_set (by omega), if_neg (by omega)]; exact gr.old j hj m, gr.lk⟩
  · rintro z ws h' ⟨rfl, zl, _, gz, rfl, gr⟩
    rw [List.length_map, List.take_length] at gz
    have bl : ∀ l : List (List Int), bools (l.map fun w => W.bl (rt w == rt one)) = some (l.map fun w => rt w == rt one) := by
      intro l
      induction l with
      | nil => rfl
      | cons w l ih =>
        rw [List.map_cons]
        show (match bools (l.map fun w => W.bl (rt w == rt one)) with | some bs => some ((rt w == rt one) :: bs) | none => none) = _
        rw [ih]
        rfl
    refine w_all gz (bl fs) ?_
    rw [unl_nil lk (gr.lk.trans lk)]
    have e : (fs.map fun w => rt w == rt one).all id = ak one [one, other, third] := by rw [ake, List.all_map]; rfl
    rw [e]
    exact r9 D hm rfl (s.grow gr) (by omega) hc lx (sm.mono (fun i hi _ => gr.old i hi fun z => z) gr.le)
theorem r7 (D : Dt one other third) {many : Nat} (hm : many ≤ 6) {q : Int} (s : Li Z n a b xs ys c k h) (hk : k ≤ Z.1 + 770 ∧ Z.1 ≤ 3000000) (hc : c < 1000) (lx : xs.length ≤ 30) (sm : SmL h (· = n) xs ys) :
    (A_R7 (callE (d + 10)) [some (.ref n), s1, some (wd one), some (wd other), some (wd third), some (.tup [wd (rt one), .int q]), some (.int (many : Int)), some (.ref a), some (.ref b), s9, s10, s11, s12, s13, s14, s15, s16, s17, s18, s19] h).Wp (D0 Z n) := by
  have nxb := s.st.nx
  unfold A_R7
  rw [w_seq]
  unfold A_S7
  w_up
  with_reducible refine w_lc ([one, other, third].map wd) (fun i ws h' => h' = h ∧ i ≤ 3 ∧ ws = (([one, other, third].take i).filter ne).map wd) ?_ ?_ ?_ ?_
  · show 3 < 100000; omega
  · refine w_iT ?_
    w_up
    exact ⟨rfl, _, rfl, ⟨by omega, rfl⟩, fun i ws h _ => srcT_at _ _ _⟩
  · rintro i w ws h' ew ⟨rfl, hi, rfl⟩
    rw [List.getElem?_map] at ew
    cases e : [one, other, third][i]? with
    | none => rw [e] at ew; cases ew
    | some v =>
      rw [e] at ew
      cases ew
      have lt : i < 3 := (List.getElem?_eq_some_iff.mp e).1
      have tk : ([one, other, third].take (i + 1)).filter ne = ([one, other, third].take i).filter ne ++ (if ne v = true then [v] else []) := by
        rw [List.take_add_one, e, List.filter_append]
        show _ ++ [v].filter ne = _
        rw [List.filter_cons, List.filter_nil]
      rw [w_gN]
      w_up
      refine ⟨rfl, ?_⟩
      rw [show W.tup [] = wd [] from rfl]
      w_up
      rw [tk]
      by_cases c : ne v = true
      · have c' : (v == []) = false := beq_eq_false_iff_ne.mpr (mem_ne.mp c)
        rw [c', if_pos c, List.map_append]
        exact ⟨by omega, rfl⟩
      · have c' : (v == []) = true := beq_iff_eq.mpr (by cases v with | nil => rfl | cons x v => exact absurd rfl c)
        rw [c', if_neg c, List.append_nil]
        exact ⟨by omega, rfl⟩
  · rintro ws h' ⟨rfl, _, rfl⟩
    refine ⟨by omega, ?_⟩
    have gr : Gr noM 1 h' (h'.new (.lst (([one, other, third].filter ne).map wd))) := Gr.new _
    exact r8 D hm (s.grow gr) (by omega) hc lx (sm.mono (fun i hi _ => gr.old i hi fun z => z) gr.le) (new_get _ (by omega)) (Nat.lt_succ_self _)
end
end L02
namespace L02
open PySem EV
theorem Li.dueJ {Z : ZT} {n a b b' j : Nat} {xs ys zs : List W} {c : Int} {k : Nat} {h h' : Hpe} (s : Li Z n a b xs ys c k h) (gr : Gr noM j h h') (o : h.nx ≤ b') (bl : b' < h'.nx) (gb : h'.get b' = some (.lst (ys ++ zs))) (l : ys.length + zs.length ≤ 60) : Li Z n a b' xs (ys ++ zs) c (k + j) h' :=
  ⟨s.st.grow gr, (gr.old a s.al fun z => z).trans s.ga, gb, Nat.lt_of_lt_of_le s.al gr.le, bl, s.an, by have := s.st.hn; omega, s.lx, by rw [List.length_append]; exact l⟩
theorem dbl {b : Nat} {v : W} {ys : List W} {h1 : Hpe} {Q : W → Hpe → Prop} {E : Exc → Hpe → Prop} (gb : h1.get b = some (.lst ys)) (bl : b < h1.nx) (nx : h1.nx ≤ 100000000) (ly : ys.length ≤ 1000) (q : ∀ h2 b', Gr noM 3 h1 h2 → h1.nx ≤ b' → b' < h2.nx → h2.get b' = some (.lst (ys ++ [v, v])) → Q (.ref b') h2) :
    line (0 + 1) = true ∧ h1.nx < 1099511627776 ∧ (gMul (.ref h1.nx) (.int 2) (h1.new (.lst [v]))).Wp (fun z h2 => (gAdd (.ref b) z h2).Wp Q E) E := by
  refine ⟨rfl, by omega, ?_⟩
  refine w_mulL (new_get _ (by omega)) (cM_of (by omega) (by omega) (by show 1 ≤ 1000; omega)) (by show h1.nx + 1 < _; omega) ?_
  have g2 : Gr noM 2 h1 ((h1.new (.lst [v])).new (.lst [v, v])) := (Gr.new (M := noM) _).trans (Gr.new _)
  generalize hh : (h1.new (.lst [v])).new (.lst (List.replicate (2 : Int).toNat [v]).flatten) = h2
  have hh2 : (h1.new (.lst [v])).new (.lst [v, v]) = h2 := hh
  rw [hh2] at g2
  have gk : h2.get (h1.new (.lst [v])).nx = some (.lst [v, v]) := by rw [← hh2]; exact new_get _ (by show h1.nx + 1 + 1 < _; omega)
  have n2 : h2.nx = h1.nx + 2 := by rw [← hh2]; rfl
  refine w_addL ((g2.old b bl fun z => z).trans gb) gk (by show _ + 2 ≤ _; omega) (by omega) ?_
  exact q _ h2.nx (g2.trans (Gr.new _)) (by omega) (Nat.lt_succ_self _) (new_get _ (by omega))
def diffs (l m : List Int) (n : Nat) : List Nat := (List.range n).filter fun k => row l k != row m k
def ofN (l : List Nat) : List W := l.map fun (k : Nat) => W.int (k : Int)
theorem ofN_len (l : List Nat) : (ofN l).length = l.length := List.length_map ..
theorem mm2 {g : Int → Int → Int} {i j : Int} {h : Hpe} : bMM2 g [.int i, .int j] h = .ok (.int (g i j)) h := rfl
section
local macro_rules | `(tactic| w_up) => `(tactic| simp only [w_seq, w_nil, w_rt, w_rtN, w_ex, w_as, w_if, w_par, w_rs, w_au, w_v, w_k, w_aN, w_aC, w_e2, w_tup, w_lst, w_cl, w_cl0, w_bl, w_asB, w_asT, w_tNt, w_tAn, w_tOr, w_tYs, w_eIf, w_eAn, w_eNtT, w_eOrT, w_oS, w_oN, w_eIs, w_eIs2, w_mt, w_mt0, wp_ok, wp_exc, List.getElem?_cons_zero, List.getElem?_cons_succ, List.set_cons_zero, List.set_cons_succ, Option.some.injEq, exists_eq_left', nc_int, nc_bl, nc_tup, nc_ref, nc_non, nc_str, true_and, and_true, List.length_cons, List.length_nil, List.map_cons, List.map_nil, W.bl.injEq, W.int.injEq, Bool.not_true, Bool.not_false, Bool.not_not, Bool.false_eq_true, if_true, if_false, iw_tup, iw_int, iw_bl, iw_str, iw_non, tr_bl, tr_int, tr_tup, tr_non, Bool.or_true, Bool.or_false, Bool.true_or, wipeR, qe_bl, qe_int, qe_non, isN_f, isN_t, beq_self_eq_true, bne_self_eq_false, Bool.false_bne, Bool.true_bne, o_gI, o_gI0, o_gB0, o_mulI, add_ii, o_mulW, o_addW, wd_fold, nc_wd, tr_wd, w_sl, sl_wd, cut_toN, cut_frN, qe_wd, len_wd])
variable {Z : ZT} {d n a b k : Nat} {h : Hpe} {xs ys : List W} {c : Int} {one other third own : List Int} {s0 s1 s2 s3 s4 s5 s6 s7 s8 s9 s10 s11 s12 s13 s14 s15 s16 s17 s18 s19 : Option W}
def BodyK (Z : ZT) (D : Po) (n m : Nat) (c : Int) (k : Nat) (one other third own : List Int) (v5 : W) (v6 : W) : Prop :=
  ∀ (a' b' : Nat) (xs' ys' : List W) (h' : Hpe) (s1 s10 s11 s12 s13 s14 s15 s16 s17 s18 s19 : Option W), Li Z n a' b' xs' ys' c k h' → xs'.length = m → SmL h' (· = n) xs' ys' → D.nx [some (.ref n), s1, some (wd one), some (wd other), some (wd third), some (v5), some (v6), some (.ref a'), some (.ref b'), some (wd own), s10, s11, s12, s13, s14, s15, s16, s17, s18, s19] h'
theorem l7 {D : Po} {v5 v6 : W} {f : Nat} (l1 : one.length ≤ 16) (lo : own.length ≤ 12) (s : Li Z n a b (xs ++ [optW (apart one own), optW (apart one own)]) ys c k h) (hk : k ≤ Z.1 + 900 ∧ Z.1 ≤ 3000000) (sm : SmL h (· = n) xs ys) (lx : xs.length ≤ 30)
    (gf : h.get f = some (.lst (ofN (diffs one own (min one.length own.length))))) (K : BodyK Z D n (xs.length + 2) c (k + 3) one other third own v5 v6) :
    (B_R7 (callE (d + 10)) [some (.ref n), s1, some (wd one), some (wd other), some (wd third), some (v5), some (v6), some (.ref a), some (.ref b), some (wd own), s10, s11, s12, s13, some (.ref f), s15, s16, s17, s18, s19] h).Wp D := by
  have nxb := s.st.nx
  have ly := sm.len
  unfold B_R7
  rw [w_seq]
  unfold B_S7 B_R8
  w_up
  simp only [len_l gf]
  w_up
  have e0 : apart one own = (diffs one own (min one.length own.length)).head? := by unfold apart diffs; rw [List.head?_filter]
  have fin : ∀ v : W, v = optW (apart one own) → line (0 + 1) = true ∧ h.nx < 1099511627776 ∧ (gMul (.ref h.nx) (.int 2) (h.new (.lst [v]))).Wp (fun z h2 => (gAdd (.ref b) z h2).Wp (fun w h => D.nx [some (.ref n), s1, some (wd one), some (wd other), some (wd third), some (v5), some (v6), some (.ref a), some (w), some (wd own), s10, s11, s12, s13, some (.ref f), s15, s16, s17, s18, s19] h) (fun x h => D.ex x [some (.ref n), s1, some (wd one), some (wd other), some (wd third), some (v5), some (v6), some (.ref a), some (.ref b), some (wd own), s10, s11, s12, s13, some (.ref f), s15, s16, s17, s18, s19] h)) (fun x h => D.ex x [some (.ref n), s1, some (wd one), some (wd other), some (wd third), some (v5), some (v6), some (.ref a), some (.ref b), some (wd own), s10, s11, s12, s13, some (.ref f), s15, s16, s17, s18, s19] h) := by
    rintro v rfl
    refine dbl s.gb s.bl (by omega) (by omega) fun h2 b' gr o bl g => ?_
    have s2 := s.dueJ gr o bl g (by show ys.length + 2 ≤ 60; omega)
    refine K _ _ _ _ _ _ _ _ _ _ _ _ _ _ _ _ s2 (by rw [List.length_append]; rfl) ((sm.mono (fun i hi _ => gr.old i hi fun z => z) gr.le).app ?_)
    have so : Sm h2 (· = n) 3 100 (optW (apart one own)) (optW (apart one own)) := by
      unfold optW
      split
      · exact .non
      · exact .int _
    exact .cons so (.cons so .nil)
  rw [ofN_len]
  cases e : diffs one own (min one.length own.length) with
  | nil =>
    simp only [List.length_nil]
    exact fin .non (by rw [e0, e]; rfl)
  | cons x r =>
    simp only [List.length_cons]
    rw [e] at gf
    have p : decide ((0 : Int) < ((r.length + 1 : Nat) : Int)) = true := decide_eq_true (by omega)
    rw [if_pos p]
    refine wp_eq (ix_lst gf (atI_0 _ _)) ?_
    exact fin (.int (x : Int)) (by rw [e0, e]; rfl)
theorem l5 {D : Po} {v5 v6 : W} (l1 : one.length ≤ 16) (lo : own.length ≤ 12) (s : Li Z n a b xs ys c k h) (hk : k ≤ Z.1 + 800 ∧ Z.1 ≤ 3000000) (sm : SmL h (· = n) xs ys) (lx : xs.length ≤ 30) (K : BodyK Z D n (xs.length + 2) c (k + 6) one other third own v5 v6) :
    (B_R5 (callE (d + 10)) [some (.ref n), s1, some (wd one), some (wd other), some (wd third), some (v5), some (v6), some (.ref a), some (.ref b), some (wd own), s10, s11, s12, s13, s14, s15, s16, s17, s18, s19] h).Wp D := by
  have nxb := s.st.nx
  unfold B_R5
  rw [w_seq]
  unfold B_S5
  w_up
  with_reducible refine w_lc (rngW 0 (min one.length own.length)) (fun i ws h' => h' = h ∧ i ≤ min one.length own.length ∧ ws = ofN (diffs one own i)) ?_ ?_ ?_ ?_
  · rw [rngW_len]; omega
  · rw [w_iR1]
    w_up
    rw [mm2]
    w_up
    refine ⟨_, rfl, cR_of (by split <;> omega) (by split <;> omega), ⟨Nat.zero_le _, rfl⟩, fun i ws h _ => ?_⟩
    rw [srcR_at]
    congr 3
    split <;> omega
  · rintro i w ws h' ew ⟨rfl, hi, rfl⟩
    rw [rngW_at] at ew
    split at ew
    · rename_i lt
      cases ew
      have c1 : i < one.length := by omega
      have c2 : i < own.length := by omega
      have tk : diffs one own (i + 1) = diffs one own i ++ (if (row one i != row own i) = true then [i] else []) := by
        unfold diffs
        rw [List.range_succ, List.filter_append, List.filter_cons, List.filter_nil]
      rw [w_gN, show (0 : Int) + (i : Int) = (i : Int) by omega]
      w_up
      rw [ix_row c1]
      w_up
      rw [ix_row c2]
      w_up
      rw [tk]
      by_cases e : row one i = row own i
      · rw [show (row one i == row own i) = true from beq_iff_eq.mpr e, show (row one i != row own i) = false by rw [e]; exact bne_self_eq_false _]
        simp only [Bool.not_true, Bool.false_eq_true, if_false, List.append_nil]
        exact ⟨by omega, trivial⟩
      · rw [show (row one i == row own i) = false from beq_eq_false_iff_ne.mpr e, show (row one i != row own i) = true from bne_iff_ne.mpr e]
        simp only [Bool.not_false, if_true, ofN, List.map_append]
        exact ⟨by omega, rfl⟩
    · cases ew
  · rintro ws h' ⟨rfl, _, rfl⟩
    rw [rngW_len]
    refine ⟨by omega, ?_⟩
    have gr : Gr noM 1 h' (h'.new (.lst (ofN (diffs one own (min one.length own.length))))) := Gr.new _
    have g0 := new_get (h := h') (.lst (ofN (diffs one own (min one.length own.length)))) (by omega)
    have fl : h'.nx < (h'.new (.lst (ofN (diffs one own (min one.length own.length))))).nx := Nat.lt_succ_self _
    generalize h'.new (.lst (ofN (diffs one own (min one.length own.length)))) = h2 at gr g0 fl
    have sl := s.grow gr
    have x2 := sl.st.nx
    unfold B_R6
    rw [w_seq]
    unfold B_S6
    with_reducible refine w_more (xs := xs) (a := a) rfl ?_
    w_up
    refine wp_eq (first (d := d + 7) (l := one) (m := own) (by omega) (by omega)) ?_
    refine wp_eq (first (d := d + 7) (l := own) (m := one) (by omega) (by omega)) ?_
    rw [apart_comm one own]
    refine ⟨by omega, by omega, by omega, sl.al, sl.ga, fun h3 a' gr3 o al g => ?_⟩
    have s3 := sl.heard gr3 o al g (by show xs.length + 2 ≤ 60; omega)
    have gg := gr.trans gr3
    exact l7 l1 lo s3 (by omega) (sm.mono (fun i hi _ => gg.old i hi fun z => z) gg.le) lx ((gr3.old _ fl fun z => z).trans g0) K
end
end L02
namespace L02
open PySem EV
section
local macro_rules | `(tactic| w_up) => `(tactic| simp only [w_seq, w_nil, w_rt, w_rtN, w_ex, w_as, w_if, w_par, w_rs, w_au, w_v, w_k, w_aN, w_aC, w_e2, w_tup, w_lst, w_cl, w_cl0, w_bl, w_asB, w_asT, w_tNt, w_tAn, w_tOr, w_tYs, w_eIf, w_eAn, w_eNtT, w_eOrT, w_oS, w_oN, w_eIs, w_eIs2, w_mt, w_mt0, wp_ok, wp_exc, List.getElem?_cons_zero, List.getElem?_cons_succ, List.set_cons_zero, List.set_cons_succ, Option.some.injEq, exists_eq_left', nc_int, nc_bl, nc_tup, nc_ref, nc_non, nc_str, true_and, and_true, List.length_cons, List.length_nil, List.map_cons, List.map_nil, W.bl.injEq, W.int.injEq, Bool.not_true, Bool.not_false, Bool.not_not, Bool.false_eq_true, if_true, if_false, iw_tup, iw_int, iw_bl, iw_str, iw_non, tr_bl, tr_int, tr_tup, tr_non, Bool.or_true, Bool.or_false, Bool.true_or, wipeR, qe_bl, qe_int, qe_non, isN_f, isN_t, beq_self_eq_true, bne_self_eq_false, Bool.false_bne, Bool.true_bne, o_gI, o_gI0, o_gB0, o_mulI, add_ii, o_mulW, o_addW, wd_fold, nc_wd, tr_wd, w_sl, sl_wd, cut_toN, cut_frN, qe_wd, len_wd])
variable {Z : ZT} {d n a b k : Nat} {h : Hpe} {xs ys : List W} {c : Int} {one other third own : List Int} {s0 s1 s2 s3 s4 s5 s6 s7 s8 s9 s10 s11 s12 s13 s14 s15 s16 s17 s18 s19 : Option W}
noncomputable def lk (one own : List Int) : Bool := own == [] || rt own == rt one
theorem l3 {D : Po} {v5 v6 : W} {rw : Bool} (h1 : one ≠ []) (l1 : one.length ≤ 16) (lo : own.length ≤ 12) (s : Li Z n a b xs ys c k h) (hk : k ≤ Z.1 + 700 ∧ Z.1 ≤ 3000000) (sm : SmL h (· = n) xs ys) (lx : xs.length ≤ 20)
    (er : (own == [] || rw) = lk one own) (K : BodyK Z D n (xs.length + 5) c (k + 10) one other third own v5 v6) :
    (B_R3 (callE (d + 10)) [some (.ref n), s1, some (wd one), some (wd other), some (wd third), some (v5), some (v6), some (.ref a), some (.ref b), some (wd own), some (.bl (lk one own)), s11, some (.bl rw), s13, s14, s15, s16, s17, s18, s19] h).Wp D := by
  have nxb := s.st.nx
  have ly := sm.len
  unfold B_R3
  rw [w_seq]
  unfold B_S3
  with_reducible refine w_more (xs := xs) (a := a) rfl ?_
  w_up
  refine wp_eq (comm (d := d + 7) (l := one) (m := own) (by omega) (by omega)) ?_
  refine wp_eq (comm (d := d + 7) (l := own) (m := one) (by omega) (by omega)) ?_
  refine wp_eq (comm (d := d + 7) (l := one) (m := own) (by omega) (by omega)) ?_
  rw [like_comm h1, like_comm2 h1]
  refine ⟨by omega, by omega, by omega, s.al, s.ga, fun h2 a' gr o al g => ?_⟩
  have sh := s.heard gr o al g (by show xs.length + 3 ≤ 60; omega)
  have x2 := sh.st.nx
  unfold B_R4
  rw [w_seq]
  unfold B_S4
  with_reducible refine w_more (xs := ys) (a := b) rfl ?_
  w_up
  refine ⟨rfl, ?_⟩
  rw [show W.tup [] = wd [] from rfl]
  w_up
  have fin : ∀ v : Bool, v = lk one own → 0 + 1 + 1 + 1 ≤ 1000 ∧ ys.length ≤ 1000 ∧ h2.nx < 100000000 ∧ b < h2.nx ∧ h2.get b = some (.lst ys) ∧ ∀ (h3 : Hpe) (b' : Nat), Gr noM 2 h2 h3 → h2.nx ≤ b' → b' < h3.nx → h3.get b' = some (.lst (ys ++ [.bl (lk one own), .bl (lk one own), .bl v])) →
      (B_R5 (callE (d + 10)) [some (.ref n), s1, some (wd one), some (wd other), some (wd third), some (v5), some (v6), some (.ref a'), some (.ref b'), some (wd own), some (.bl (lk one own)), s11, some (.bl rw), s13, s14, s15, s16, s17, s18, s19] h3).Wp D := by
    rintro v rfl
    refine ⟨by omega, by omega, by omega, sh.bl, sh.gb, fun h3 b' gr2 o2 bl g2 => ?_⟩
    have sd := sh.due gr2 o2 bl g2 (by show ys.length + 3 ≤ 60; omega)
    have gg := gr.trans gr2
    refine l5 l1 lo (sd.mono (j := k + 4) (by omega) (Int.le_refl _)) (by omega) ((sm.mono (fun i hi _ => gg.old i hi fun z => z) gg.le).app (.cons (.bl _) (.cons (.bl _) (.cons (.bl _) .nil)))) (by rw [List.length_append]; show xs.length + 3 ≤ 30; omega) ?_
    rw [List.length_append]
    exact K
  by_cases e : own = []
  · have e' : (own == []) = true := beq_iff_eq.mpr e
    rw [e'] at er
    rw [e', if_pos rfl]
    exact fin true er
  · have e' : (own == []) = false := beq_eq_false_iff_ne.mpr e
    rw [e', Bool.false_or] at er
    rw [e', if_neg (by decide)]
    exact fin rw er
theorem l0 {D : Po} {v6 : W} {q : Int} (h1 : one ≠ []) (l1 : one.length ≤ 16) (lo : own.length ≤ 12) (s : Li Z n a b xs ys c k h) (hk : k ≤ Z.1 + 690 ∧ Z.1 ≤ 3000000) (sm : SmL h (· = n) xs ys) (lx : xs.length ≤ 20)
    (K : BodyK Z D n (xs.length + 5) c (k + 11) one other third own (.tup [wd (rt one), .int q]) v6) :
    (B_R0 (callE (d + 10)) [some (.ref n), s1, some (wd one), some (wd other), some (wd third), some (.tup [wd (rt one), .int q]), some (v6), some (.ref a), some (.ref b), some (wd own), s10, s11, s12, s13, s14, s15, s16, s17, s18, s19] h).Wp D := by
  have nxb := s.st.nx
  unfold B_R0
  rw [w_seq]
  unfold B_S0
  w_up
  refine ⟨rfl, ?_⟩
  rw [show W.tup [] = wd [] from rfl]
  w_up
  have fin : ∀ v : Bool, v = lk one own → (B_R1 (callE (d + 10)) [some (.ref n), s1, some (wd one), some (wd other), some (wd third), some (.tup [wd (rt one), .int q]), some (v6), some (.ref a), some (.ref b), some (wd own), some (.bl v), s11, s12, s13, s14, s15, s16, s17, s18, s19] h).Wp D := by
    rintro v rfl
    unfold B_R1
    rw [w_seq]
    unfold B_S1
    w_up
    unfold B_R2
    rw [w_seq]
    unfold B_S2
    w_up
    refine ⟨rfl, ?_⟩
    rw [show W.tup [] = wd [] from rfl]
    w_up
    by_cases e : own = []
    · have e' : (own == []) = true := beq_iff_eq.mpr e
      rw [e']
      w_up
      refine l3 (rw := false) h1 l1 lo (s.mono (j := k + 1) (by omega) (Int.le_refl _)) (by omega) sm lx ?_ K
      unfold lk
      rw [e']
      rfl
    · have e' : (own == []) = false := beq_eq_false_iff_ne.mpr e
      rw [e']
      w_up
      have po := ne_pos e
      have p1 := ne_pos h1
      rw [show ((one.length : Int) + (own.length : Int)) = ((one.length + own.length : Nat) : Int) by omega]
      with_reducible refine w_allR (one.length + own.length) (fun k => row one k == row own k) ?_ ?_ ?_ ?_ ?_
      · omega
      · omega
      · rw [w_iR1]
        w_up
        exact ⟨_, rfl, cR_of (by omega) (by omega), fun i => by rw [srcR_at, Int.toNat_natCast]⟩
      · intro k hk
        rw [w_gN]
        w_up
        refine ⟨decide_eq_true (by omega), ?_⟩
        rw [show ((k : Int) % (one.length : Int)) = ((k % one.length : Nat) : Int) by omega, ix_row (Nat.mod_lt _ p1), row_mod]
        w_up
        refine ⟨decide_eq_true (by omega), ?_⟩
        rw [show ((k : Int) % (own.length : Int)) = ((k % own.length : Nat) : Int) by omega, ix_row (Nat.mod_lt _ po), row_mod]
        w_up
      · intro h2 gr
        refine l3 (rw := (List.range (one.length + own.length)).all fun k => row one k == row own k) h1 l1 lo (s.grow gr) (by omega) (sm.mono (fun i hi _ => gr.old i hi fun z => z) gr.le) lx ?_ K
        unfold lk
        rw [← like_rows h1, e']
        rfl
  by_cases e : own = []
  · have e' : (own == []) = true := beq_iff_eq.mpr e
    rw [e', if_pos rfl]
    exact fin true (by unfold lk; rw [e']; rfl)
  · have e' : (own == []) = false := beq_eq_false_iff_ne.mpr e
    rw [e', if_neg (by decide)]
    obtain ⟨m, em⟩ := lrt (d := d + 9) e (by omega)
    refine wp_eq (em _) ?_
    refine wp_eq (ix_t (atI_0 _ _)) ?_
    refine wp_eq (ix_t (atI_0 _ _)) ?_
    w_up
    exact fin _ (by unfold lk; rw [e']; rfl)
theorem r6 (D : Dt one other third) {many : Nat} (hm : many ≤ 6) {q : Int} (s : Li Z n a b xs ys c k h) (hk : k ≤ Z.1 + 600 ∧ Z.1 ≤ 3000000) (hc : c < 1000) (lx : xs.length ≤ 5) (sm : SmL h (· = n) xs ys) :
    (A_R6 (callE (d + 10)) [some (.ref n), s1, some (wd one), some (wd other), some (wd third), some (.tup [wd (rt one), .int q]), some (.int (many : Int)), some (.ref a), some (.ref b), s9, s10, s11, s12, s13, s14, s15, s16, s17, s18, s19] h).Wp (D0 Z n) := by
  have l1 := D.l1
  have l2 := D.l2
  have l3 := D.l3
  unfold A_R6
  rw [w_seq]
  unfold A_S6
  with_reducible refine w_for ([other, third].map wd) (fun i ρ h => ∃ a b xs ys s1 s9 s10 s11 s12 s13 s14 s15 s16 s17 s18 s19, ρ = [some (.ref n), s1, some (wd one), some (wd other), some (wd third), some (.tup [wd (rt one), .int q]), some (.int (many : Int)), some (.ref a), some (.ref b), s9, s10, s11, s12, s13, s14, s15, s16, s17, s18, s19] ∧ Li Z n a b xs ys c (k + 11 * i) h ∧ xs.length ≤ 5 + 5 * i ∧ SmL h (· = n) xs ys) ?_ ?_ ?_ ?_
  · show 2 < 1000000; omega
  · refine w_iT ?_
    w_up
    exact ⟨rfl, _, rfl, ⟨a, b, xs, ys, _, _, _, _, _, _, _, _, _, _, _, _, rfl, s, lx, sm⟩, fun i ρ h _ => srcT_at _ _ _⟩
  · rintro i w ρ h' ew ⟨a, b, xs, ys, s1, s9, s10, s11, s12, s13, s14, s15, s16, s17, s18, s19, rfl, sl, ll, sms⟩
    rw [List.getElem?_map] at ew
    cases e : [other, third][i]? with
    | none => rw [e] at ew; cases ew
    | some v =>
      rw [e] at ew
      cases ew
      have lt : i < 2 := (List.getElem?_eq_some_iff.mp e).1
      have lv : v.length ≤ 12 := by
        have := List.mem_of_getElem? e
        simp only [List.mem_cons, List.not_mem_nil, or_false] at this
        rcases this with rfl | rfl <;> omega
      rw [w_gN]
      w_up
      refine l0 D.ne l1 lv sl (by omega) sms (by omega) ?_
      intro a' b' xs' ys' h2 s1 s10 s11 s12 s13 s14 s15 s16 s17 s18 s19 sl2 len sm2
      exact ⟨a', b', xs', ys', _, _, _, _, _, _, _, _, _, _, _, _, rfl, sl2.mono (by omega) (Int.le_refl _), by omega, sm2⟩
  · rintro ρ h' ⟨a, b, xs, ys, s1, s9, s10, s11, s12, s13, s14, s15, s16, s17, s18, s19, rfl, sl, ll, sms⟩
    have ln : ([other, third].map wd).length = 2 := rfl
    rw [ln] at sl ll
    exact r7 D hm sl (by omega) hc (by omega) sms
end
end L02
namespace L02
open PySem EV
section
local macro_rules | `(tactic| w_up) => `(tactic| simp only [w_seq, w_nil, w_rt, w_rtN, w_ex, w_as, w_if, w_par, w_rs, w_au, w_v, w_k, w_aN, w_aC, w_e2, w_tup, w_lst, w_cl, w_cl0, w_bl, w_asB, w_asT, w_tNt, w_tAn, w_tOr, w_tYs, w_eIf, w_eAn, w_eNtT, w_eOrT, w_oS, w_oN, w_eIs, w_eIs2, w_mt, w_mt0, wp_ok, wp_exc, List.getElem?_cons_zero, List.getElem?_cons_succ, List.set_cons_zero, List.set_cons_succ, Option.some.injEq, exists_eq_left', nc_int, nc_bl, nc_tup, nc_ref, nc_non, nc_str, true_and, and_true, List.length_cons, List.length_nil, List.map_cons, List.map_nil, W.bl.injEq, W.int.injEq, Bool.not_true, Bool.not_false, Bool.not_not, Bool.false_eq_true, if_true, if_false, iw_tup, iw_int, iw_bl, iw_str, iw_non, tr_bl, tr_int, tr_tup, tr_non, Bool.or_true, Bool.or_false, Bool.true_or, wipeR, qe_bl, qe_int, qe_non, isN_f, isN_t, beq_self_eq_true, bne_self_eq_false, Bool.false_bne, Bool.true_bne, o_gI, o_gI0, o_gB0, o_mulI, add_ii, o_mulW, o_addW, wd_fold, nc_wd, tr_wd, w_sl, sl_wd, cut_toN, cut_frN, qe_wd, len_wd])
variable {Z : ZT} {d n k : Nat} {h : Hpe} {c : Int} {base one other third : List Int} {s0 s1 s2 s3 s4 s5 s6 s7 s8 s9 s10 s11 s12 s13 s14 s15 s16 s17 s18 s19 : Option W}
structure Rq (d : Nat) (one : List Int) (q : Nat) : Prop where
  rt : ∀ h, callE (d + 10) 3 [wd one] h = .ok (.tup [wd (L02.rt one), .int (q : Int)]) h
  lrt : ∀ h, callE (d + 10) 15 [wd one] h = .ok (.tup [wd (L02.rt one), .int (q : Int)]) h
  rep : EV.rep (L02.rt one) q = one
  le : q ≤ one.length
theorem exRq (h1 : one ≠ []) (l1 : one.length ≤ 1000) : ∃ q, Rq d one q := by
  obtain ⟨r, R, e⟩ := rt_at h1
  refine ⟨one.length / r, ⟨fun h => by rw [e]; exact root (d := d + 7) h1 l1 R, fun h => by rw [e]; exact lroot (d := d + 9) h1 l1 R, by rw [e]; exact rep_self h1 R, Nat.div_le_self _ _⟩⟩
theorem r5 (D : Dt one other third) {many q : Nat} (hm : many ≤ 6) (R : Rq d one q) (s : StU Z n c k h) (hk : k ≤ Z.1 + 500 ∧ Z.1 ≤ 3000000) (hc : c < 1000) :
    (A_R5 (callE (d + 10)) [some (.ref n), s1, some (wd one), some (wd other), some (wd third), some (.tup [wd (rt one), .int (q : Int)]), some (.int (many : Int)), s7, s8, s9, s10, s11, s12, s13, s14, s15, s16, s17, s18, s19] h).Wp (D0 Z n) := by
  have nxb := s.nx
  have nb := s.hn
  have l1 := D.l1
  have l2 := D.l2
  have lr := rt_len one
  have lq := R.le
  unfold A_R5
  rw [w_seq]
  unfold A_S5
  w_up
  refine wp_eq (R.rt _) ?_
  refine wp_eq (ix_t (atI_0 _ _)) ?_
  refine wp_eq (ix_t (w := .int (q : Int)) (atI_n (i := 1) rfl)) ?_
  refine wp_eq (power (d := d + 7) (by omega) (by omega) (by omega)) ?_
  rw [Int.toNat_natCast, R.rep]
  refine wp_eq (power (d := d + 7) (by omega) (by omega) (by omega)) ?_
  rw [Int.toNat_natCast]
  refine ⟨rfl, by omega, cM_of (by omega) (by omega) (by omega), rfl, by show h.nx + 1 < _; omega, ?_⟩
  have g1 : Gr noM 1 h (h.new (.lst [.tup [wd (rt one), .int (q : Int)], wd one, wd (rep other many)])) := Gr.new _
  have ga := new_get (h := h) (.lst [.tup [wd (rt one), .int (q : Int)], wd one, wd (rep other many)]) (by omega)
  have x1 : (h.new (.lst [.tup [wd (rt one), .int (q : Int)], wd one, wd (rep other many)])).nx = h.nx + 1 := rfl
  generalize h.new (.lst [.tup [wd (rt one), .int (q : Int)], wd one, wd (rep other many)]) = h1 at g1 ga x1
  have g2 : Gr noM 1 h1 (h1.new (.lst [.tup [wd (rt one), .int (q : Int)], wd one, wd (rep other many)])) := Gr.new _
  have gb := new_get (h := h1) (.lst [.tup [wd (rt one), .int (q : Int)], wd one, wd (rep other many)]) (by omega)
  have x2 : (h1.new (.lst [.tup [wd (rt one), .int (q : Int)], wd one, wd (rep other many)])).nx = h1.nx + 1 := rfl
  generalize h1.new (.lst [.tup [wd (rt one), .int (q : Int)], wd one, wd (rep other many)]) = h2 at g2 gb x2
  have sl : Li Z n h.nx h1.nx [.tup [wd (rt one), .int (q : Int)], wd one, wd (rep other many)] [.tup [wd (rt one), .int (q : Int)], wd one, wd (rep other many)] c (k + 1 + 1) h2 :=
    ⟨(s.grow g1).grow g2, (g2.old _ (by omega) fun z => z).trans ga, gb, by omega, by omega, by omega, by omega, by show 3 ≤ 60; omega, by show 3 ≤ 60; omega⟩
  have lo : (rep other many).length ≤ 100 := by
    rw [rep_len]
    exact Nat.le_trans (Nat.mul_le_mul hm l2) (by decide)
  refine r6 D hm sl (by omega) hc (by show 3 ≤ 5; omega) ?_
  have t0 : Sm h2 (· = n) 3 100 (.tup [wd (rt one), .int (q : Int)]) (.tup [wd (rt one), .int (q : Int)]) := by
    refine .tup rfl (by show 2 ≤ 100; omega) fun i w u e1 e2 => ?_
    match i with
    | 0 =>
      cases e1
      cases e2
      exact sm_map _ (by omega)
    | 1 =>
      cases e1
      cases e2
      exact .int _
    | i + 2 => simp at e1
  exact .cons t0 (.cons (sm_map _ (by omega)) (.cons (sm_map _ lo) .nil))
theorem r4 (D : Dt one other third) (s : StU Z n c k h) (hk : k ≤ Z.1 + 500 ∧ Z.1 ≤ 3000000) (hc : c < 900) :
    (A_R4 (callE (d + 10)) [some (.ref n), s1, some (wd one), some (wd other), some (wd third), s5, s6, s7, s8, s9, s10, s11, s12, s13, s14, s15, s16, s17, s18, s19] h).Wp (D0 Z n) := by
  have nxb := s.nx
  have nb := s.hn
  obtain ⟨q, R⟩ := exRq (d := d) D.ne (by have := D.l1; omega)
  unfold A_R4
  rw [w_seq]
  unfold A_S4
  rw [w_asG]
  w_up
  refine wp_eq (R.lrt _) ?_
  refine w_take (T := callE (d + 10)) (et (d + 9)) s.urn (by omega) (by decide) (by decide) (by omega) fun t h1 t0 t1 u gr => ?_
  obtain ⟨many, rfl⟩ : ∃ many : Nat, t = many := ⟨t.toNat, by omega⟩
  refine ⟨rfl, ?_⟩
  rw [cl_gT2]
  w_up
  exact r5 D (by omega) R (s.draw u gr) (by omega) (by omega)
theorem r3 (hb : base.length ≤ 4) (h1 : one ≠ []) (l1 : one.length ≤ 16) (l2 : other.length ≤ 12) (bg : other.length + 8 ≤ 20 * one.length) (s : StU Z n c k h) (hk : k ≤ Z.1 + 400 ∧ Z.1 ≤ 3000000) (hc : c < 800) :
    (A_R3 (callE (d + 10)) [some (.ref n), some (wd base), some (wd one), some (wd other), s4, s5, s6, s7, s8, s9, s10, s11, s12, s13, s14, s15, s16, s17, s18, s19] h).Wp (D0 Z n) := by
  have nxb := s.nx
  have nb := s.hn
  unfold A_R3
  rw [w_seq]
  unfold A_S3
  w_up
  refine w_take (T := callE (d + 10)) (et (d + 9)) s.urn (by omega) (by decide) (by decide) (by omega) fun t h1' t0 t1 u gr => ?_
  have st := s.draw u gr
  w_up
  by_cases e : (t == 0) = true
  · rw [if_pos e]
    refine word (d := d + 8) st (by omega) (most := 4) (kinds := 2) (by omega) (by omega) (by omega) (by omega) fun l h2 ll s2 gr2 => ?_
    exact r4 ⟨h1, l1, l2, by omega, bg⟩ s2 (by omega) (by omega)
  · rw [if_neg e]
    have nx1 := st.nx
    have n1 := st.hn
    refine w_take (T := callE (d + 10)) (et (d + 9)) st.urn (by omega) (by decide) (by decide) (by omega) fun t' h2 t0' t1' u2 gr2 => ?_
    w_up
    refine ⟨cM_of (by omega) (by omega) (by omega), ?_⟩
    refine r4 ⟨h1, l1, l2, ?_, bg⟩ (st.draw u2 gr2) (by omega) (by omega)
    rw [rep_len]
    exact Nat.le_trans (Nat.mul_le_mul (show t'.toNat ≤ 2 by omega) hb) (by decide)
theorem r1 (hb0 : base ≠ []) (hb : base.length ≤ 4) (s : StU Z n c k h) (hk : k ≤ Z.1 + 300 ∧ Z.1 ≤ 3000000) (hc : c < 700) :
    (A_R1 (callE (d + 10)) [some (.ref n), some (wd base), s2, s3, s4, s5, s6, s7, s8, s9, s10, s11, s12, s13, s14, s15, s16, s17, s18, s19] h).Wp (D0 Z n) := by
  have nxb := s.nx
  have nb := s.hn
  have pb := ne_pos hb0
  unfold A_R1
  rw [w_seq]
  unfold A_S1
  w_up
  refine w_take (T := callE (d + 10)) (et (d + 9)) s.urn (by omega) (by decide) (by decide) (by omega) fun t h1' t0 t1 u gr => ?_
  have st := s.draw u gr
  w_up
  refine ⟨cM_of (by omega) (by omega) (by omega), ?_⟩
  have len1 : (rep base (1 + t).toNat).length = (1 + t).toNat * base.length := rep_len _ _
  have up : (1 + t).toNat * base.length ≤ 4 * 4 := Nat.mul_le_mul (by omega) hb
  have lo : 1 * base.length ≤ (1 + t).toNat * base.length := Nat.mul_le_mul_right _ (by omega)
  have h1 : rep base (1 + t).toNat ≠ [] := fun z => by rw [z, List.length_nil] at len1; omega
  generalize rep base (1 + t).toNat = one at len1 h1
  have nx1 := st.nx
  have n1 := st.hn
  unfold A_R2
  rw [w_seq]
  unfold A_S2
  w_up
  refine w_take (T := callE (d + 10)) (et (d + 9)) st.urn (by omega) (by decide) (by decide) (by omega) fun t2 h2 t20 t21 u2 gr2 => ?_
  have st2 := st.draw u2 gr2
  have nx2 := st2.nx
  have n2 := st2.hn
  w_up
  by_cases e : (t2 == 0) = true
  · rw [if_pos e]
    refine w_take (T := callE (d + 10)) (et (d + 9)) st2.urn (by omega) (by decide) (by decide) (by omega) fun t3 h3 t30 t31 u3 gr3 => ?_
    w_up
    refine ⟨cM_of (by omega) (by omega) (by omega), ?_⟩
    have lo3 : (rep base t3.toNat).length ≤ 3 * base.length := by
      rw [rep_len]
      exact Nat.mul_le_mul_right _ (by omega)
    exact r3 hb h1 (by omega) (by omega) (by omega) (st2.draw u3 gr3) (by omega) (by omega)
  · rw [if_neg e]
    refine word (d := d + 8) st2 (by omega) (most := 6) (kinds := 2) (by omega) (by omega) (by omega) (by omega) fun l h3 ll s3 gr3 => ?_
    exact r3 hb h1 (by omega) (by omega) (by omega) s3 (by omega) (by omega)
theorem r0 (s : StU Z n c k h) (hk : k ≤ Z.1 + 200 ∧ Z.1 ≤ 3000000) (hc : c < 600) : (F__law_right (callE (d + 10)) [some (.ref n), s1, s2, s3, s4, s5, s6, s7, s8, s9, s10, s11, s12, s13, s14, s15, s16, s17, s18, s19] h).Wp (D0 Z n) := by
  have nxb := s.nx
  have nb := s.hn
  rw [right_eq]
  unfold A_R0
  rw [w_seq]
  unfold A_S0
  w_up
  refine word (d := d + 8) s (by omega) (most := 3) (kinds := 2) (by omega) (by omega) (by omega) (by omega) fun l h1 ll s1' gr => ?_
  have nx1 := s1'.nx
  have n1 := s1'.hn
  refine w_take (T := callE (d + 10)) (et (d + 9)) s1'.urn (by omega) (by decide) (by decide) (by omega) fun t h2 t0 t1 u gr2 => ?_
  refine ⟨rfl, ?_⟩
  rw [show W.tup [W.int t] = wd [t] from rfl]
  w_up
  refine ⟨by show l.length + 1 ≤ 100000; omega, ?_⟩
  exact r1 (by simp) (by rw [List.length_append]; show l.length + 1 ≤ 4; omega) (s1'.draw u gr2) (by omega) (by omega)
theorem right (s : StU Z n c k h) (hk : k ≤ Z.1 + 200 ∧ Z.1 ≤ 3000000) (hc : c < 600) : ∃ h', callE (d + 11) 17 [.ref n] h = .ok (.bl true) h' ∧ h'.lk = [] ∧ h'.nx ≤ Z.1 + 1200000 ∧ Z.1 ≤ h'.nx ∧ ∀ i, i < Z.1 → i ≠ n → h'.get i = Z.2 i := by
  have z : (callE (d + 11) 17 [.ref n] h).Wp (fun w h => w = .bl true ∧ h.lk = [] ∧ h.nx ≤ Z.1 + 1200000 ∧ Z.1 ≤ h.nx ∧ ∀ i, i < Z.1 → i ≠ n → h.get i = Z.2 i) (fun _ _ => False) := by
    rw [callE_at, b17, run_eq]
    refine RS.Wp.mono (r0 (d := d) (s1 := none) (s2 := none) (s3 := none) (s4 := none) (s5 := none) (s6 := none) (s7 := none) (s8 := none) (s9 := none) (s10 := none) (s11 := none) (s12 := none) (s13 := none) (s14 := none) (s15 := none) (s16 := none) (s17 := none) (s18 := none) (s19 := none) s hk hc) (fun _ _ q => q.elim) (fun _ _ q => q) (fun _ _ q => q) (fun _ _ q => q) (fun _ _ _ q => q)
  cases e : callE (d + 11) 17 [.ref n] h with
  | ok w h' =>
    rw [e] at z
    obtain ⟨rfl, z⟩ := z
    exact ⟨h', rfl, z⟩
  | ex x h' => rw [e] at z; exact z.elim
  | no => rw [e] at z; exact z.elim
end
end L02
namespace L02
open PySem EV
theorem b18 (T : Tab) : (bodies T).get 18 = frm (runB 1 (F__law_by_hand_right T)) := rfl
theorem hand (h : Hpe) : callE 113 18 [] h = .ok (.bl true) h := by
  rw [callE_at, b18]
  exact frm_kn rfl rfl (by kernel_rfl) h
theorem b12 (d : Nat) : callE (d + 1) 12 = runB 6 uCells := rfl
theorem b10 (d : Nat) : callE (d + 1) 10 = runB 3 (uBox 96812) := rfl
section
local macro_rules | `(tactic| w_up) => `(tactic| simp only [w_seq, w_nil, w_rt, w_rtN, w_ex, w_as, w_if, w_par, w_rs, w_au, w_v, w_k, w_aN, w_aC, w_e2, w_tup, w_lst, w_cl, w_cl0, w_bl, w_asB, w_asT, w_tNt, w_tAn, w_tOr, w_tYs, w_eIf, w_eAn, w_eNtT, w_eOrT, w_oS, w_oN, w_eIs, w_eIs2, w_mt, w_mt0, wp_ok, wp_exc, List.getElem?_cons_zero, List.getElem?_cons_succ, List.set_cons_zero, List.set_cons_succ, Option.some.injEq, exists_eq_left', nc_int, nc_bl, nc_tup, nc_ref, nc_non, nc_str, true_and, and_true, List.length_cons, List.length_nil, List.map_cons, List.map_nil, W.bl.injEq, W.int.injEq, Bool.not_true, Bool.not_false, Bool.not_not, Bool.false_eq_true, if_true, if_false, iw_tup, iw_int, iw_bl, iw_str, iw_non, tr_bl, tr_int, tr_tup, tr_non, Bool.or_true, Bool.or_false, Bool.true_or, wipeR, qe_bl, qe_int, qe_non, isN_f, isN_t, beq_self_eq_true, bne_self_eq_false, Bool.false_bne, Bool.true_bne, o_gI, o_gI0, o_gB0, o_mulI, add_ii, o_mulW, o_addW, wd_fold, nc_wd, tr_wd, w_sl, sl_wd, cut_toN, cut_frN, qe_wd, len_wd])
theorem says : Says (runB 3 (F_law (callE 113))) := by
  intro ns hl o ho
  obtain ⟨c, zs, h1, zl, e1, g1, cl, nx1, lk1⟩ := cells2_ok ns hl o ho
  have z : (runB 3 (F_law (callE 113)) [.ref 0] (Hpe.nil.new o)).Wp (fun w _ => w = .bl true) (fun _ _ => False) := by
    rw [run_eq]
    show (F_law (callE 113) [some (.ref 0), none, none] (Hpe.nil.new o)).Wp _
    unfold F_law
    w_up
    refine wp_eq (hand _) ?_
    w_up
    refine wp_eq (show callE 113 12 [.ref 0, .int 2] (Hpe.nil.new o) = _ by rw [b12 112]; exact e1) ?_
    with_reducible refine w_compD ?_
    rw [w_iR1]
    w_up
    rw [len_l g1, List.length_map]
    w_up
    have zn : zs.length ≤ 2 := by omega
    refine ⟨_, rfl, cR_of (by omega) (by omega), rngW 0 zs.length, fun k i ws h' => k = h1.nx ∧ k < h'.nx ∧ i ≤ zs.length ∧ ws = List.replicate i (.bl true) ∧ h'.get k = some (.lst ws) ∧ h'.get c = some (.lst (zs.map .int)) ∧ h'.lk = [] ∧ h'.nx ≤ 12 + i * 1200000, ?_, ⟨by omega, ?_⟩, ?_, ?_, ?_⟩
    · rw [rngW_len]; omega
    · exact ⟨rfl, Nat.lt_succ_self _, Nat.zero_le _, rfl, new_get _ (by omega), by rw [get_new (by omega), if_neg (by omega)]; exact g1, lk1, by show h1.nx + 1 ≤ _; omega⟩
    · intro k i ws h' _
      rw [srcR_at, Int.toNat_natCast]
    · rintro k i w ws h' ew ⟨rfl, kn, hi, rfl, gk, gc, lk, nx⟩ _
      rw [rngW_at] at ew
      split at ew
      · rename_i lt
        cases ew
        rw [show (0 : Int) + (i : Int) = (i : Int) by omega, w_gN]
        w_up
        have ez : zs[i]? = some zs[i] := List.getElem?_eq_getElem lt
        obtain ⟨x, y, e3⟩ := boxK_ok (c0 := 96812) gc ez (by omega) (by omega) (by omega)
        refine wp_eq (show callE 113 10 [.ref c, .int (i : Nat)] h' = _ by rw [b10 112]; exact e3) ?_
        have su : StU (h'.nx, h'.get) h'.nx 0 (h'.nx + 1) (h'.new (.lst [.int x, .int y, .int 0])) :=
          ⟨⟨x, y, 0, new_get _ (by omega), by omega, by omega⟩, Nat.lt_succ_self _, Nat.le_refl _, lk, Nat.le_succ _, fun j hj ne => new_old _ ne⟩
        obtain ⟨h2, e4, lk2, nx2, le2, old2⟩ := right (d := 102) su ⟨by show h'.nx + 1 ≤ h'.nx + 200; omega, by show h'.nx ≤ 3000000; omega⟩ (by decide)
        dsimp only at nx2 le2 old2
        refine wp_eq e4 ⟨(old2 _ kn (by omega)).trans gk, by show h1.nx < h2.nx; omega, by omega, by rw [List.replicate_succ'], by rw [get_set (by omega), if_pos rfl], ?_, lk2, by show h2.nx ≤ _; omega⟩
        rw [get_set (by omega), if_neg (by omega)]
        exact (old2 _ (by omega) (by omega)).trans gc
      · cases ew
    · rintro k ws h' ⟨rfl, kn, _, rfl, gk, _⟩
      rw [rngW_len] at gk
      refine w_all gk (bools_rep true _) ?_
      congr 1
      simp
  cases e : runB 3 (F_law (callE 113)) [.ref 0] (Hpe.nil.new o) with
  | ok w h' => rw [e] at z; exact ⟨h', congrArg (fun w => Res.ok w h') z⟩
  | ex x h' => rw [e] at z; exact z.elim
  | no => rw [e] at z; exact z.elim
end
end L02
open PySem PySem.W PyProof.Rows
set_option maxRecDepth 100000 in
set_option maxHeartbeats 0 in
theorem PySem.Challenge.cw_unwound_k02_whole_words_and_their_roots_holds : PySem.Challenge.rw_unwound_k02_whole_words_and_their_roots.Holds := by
  refine L02.hd ⟨L02.h0, L02.hsq rfl, ?_⟩
  k_fill
  have _ := L02.zfill
  refine EV.walk_E (names := ["common_root"]) (x := "script") rfl rfl (fun w h Y => by first | exact PySem.W.kIn_of Y | exact PySem.W.km_in_of Y) (by kernel_rfl) (fun w => by kernel_rfl) L02.says ?F
  case F =>
    intro w mg fa h KX N hfa
    have A0 := L02.zA0 KX N
    have A1 := L02.zA1 KX N
    have A2 := L02.zA2 KX N
    have A3 := L02.zA3 KX N
    have A4 := L02.zA4 KX N
    have A5 := EV.atC_mk (n := "common_root") (st := L02.s_common_root) (ps := ["words"]) KX N (by k_is) (by k_is) (by k_is) (by k_is) (by k_is) (by rfl) (by kernel_rfl) (by kernel_rfl) (fun _ _ _ _ _ _ us hl => match us, hl with | [_], _ => rfl)
    have A6 := L02.zA6 KX N
    have A7 := L02.zA7 KX N
    have A8 := L02.zA8 KX N
    have A9 := L02.zA9 KX N
    have A10 := L02.zA10 KX N
    have A11 := L02.zA11 KX N
    have A12 := L02.zA12 KX N
    have A13 := L02.zA13 KX N
    have A14 := L02.zA14 KX N
    have A15 := L02.zA15 KX N
    have A16 := L02.zA16 KX N
    have A17 := L02.zA17 KX N
    have A18 := L02.zA18 KX N
    have A19 := L02.zA19 KX N
    have m_abs : mg "abs" = none := PySem.W.mg_none_of KX N (by k_is)
    have m_all : mg "all" = none := PySem.W.mg_none_of KX N (by k_is)
    have m_bool : mg "bool" = none := PySem.W.mg_none_of KX N (by k_is)
    have m_enumerate : mg "enumerate" = none := PySem.W.mg_none_of KX N (by k_is)
    have m_int : mg "int" = none := PySem.W.mg_none_of KX N (by k_is)
    have m_isinstance : mg "isinstance" = none := PySem.W.mg_none_of KX N (by k_is)
    have m_len : mg "len" = none := PySem.W.mg_none_of KX N (by k_is)
    have m_list : mg "list" = none := PySem.W.mg_none_of KX N (by k_is)
    have m_min : mg "min" = none := PySem.W.mg_none_of KX N (by k_is)
    have m_range : mg "range" = none := PySem.W.mg_none_of KX N (by k_is)
    have m_reversed : mg "reversed" = none := PySem.W.mg_none_of KX N (by k_is)
    have m_str : mg "str" = none := PySem.W.mg_none_of KX N (by k_is)
    have m_tuple : mg "tuple" = none := PySem.W.mg_none_of KX N (by k_is)
    have m_zip : mg "zip" = none := PySem.W.mg_none_of KX N (by k_is)
    have ⟨Cs, CF0⟩ : ∃ Cs : List Addr, L02.CF PySem.Challenge.rw_unwound_k02_whole_words_and_their_roots.prog w _ mg Cs := ⟨[_, _], {
      at_ := ⟨by k_is, ⟨by k_is, trivial⟩⟩,
      e_CanNot := EV.exE_mk KX N rfl PySem.F.excBase_ValueError (by k_is) (by k_exc) (by k_is) (by k_is) (by k_is),
      n_CanNot := EV.exN_mk KX N rfl (by k_is) (by k_is) (by k_is) (by k_is) ⟨by k_is, ⟨by k_is, trivial⟩⟩,
      e_Unfit := EV.exE_mk KX N rfl PySem.F.excBase_ValueError (by k_is) (by k_exc) (by k_is) (by k_is) (by k_is) }⟩
    exact ⟨_, [(_, _)], [], _, _, _, EV.clOf Cs, ⟨⟨A5.tab, A5.no⟩, trivial⟩, L02.law_at hfa A0 A1 A2 A3 A4 A5 (by simp) (by decide) A6 A7 A8 A9 A10 A11 A12 A13 A14 A15 A16 A17 A18 A19 CF0.e_CanNot CF0.n_CanNot CF0.e_Unfit m_abs m_all m_bool m_enumerate m_int m_isinstance m_len m_list m_min m_range m_reversed m_str m_tuple m_zip⟩
