package table

import (
	"drogue/api"
	"drogue/tree"
)

// tooMany stands for every number of slots above what a type may have, and for one without end: no sum grows beyond bounds.
const tooMany = api.MaxSlots + 1

// declaration is a struct, or an enum, and what it is as a type.
type declaration struct {
	at         int
	name       string
	number     int // a struct's index; noNumber: it is an enum
	safe, hook bool
	parts      []api.Var // its fields, or its variants
	slots      int       // 0: it wasn't measured yet
	drops      bool
}

// isStruct: is there a declaration, of a struct?
func (d *declaration) isStruct() bool { return d != nil && d.number != noNumber }

// isEnum: is there a declaration, of an enum?
func (d *declaration) isEnum() bool { return d != nil && d.number == noNumber }

// diag: a diagnostic of a declaration.
func (d *declaration) diag(code int) api.Diag { return api.Diag{At: d.at, Code: code} }

// declarations: those of a program, in order, in memory of their own, so that nothing that is handed in is kept.
func declarations(p api.Prog) []*declaration {
	own := tree.Clone(api.Prog{Structs: p.Structs, Enums: p.Enums})
	var list []*declaration
	for i, s := range own.Structs {
		list = append(list, &declaration{at: s.At, name: s.Name, number: i, safe: s.Safe, hook: s.Hook, parts: s.Fields})
	}
	for _, e := range own.Enums {
		list = append(list, &declaration{at: e.At, name: e.Name, number: noNumber, parts: e.Variants})
	}
	return list
}

// byName: the first declaration of each name.
func byName(list []*declaration) map[string]*declaration {
	declared := make(map[string]*declaration, len(list))
	for _, d := range list {
		if declared[d.name] == nil {
			declared[d.name] = d
		}
	}
	return declared
}

// unsound: what is told of declarations that aren't sound.
func (t *Table) unsound(list []*declaration) []api.Diag {
	var diags []api.Diag
	for _, d := range list {
		if t.find(d.name) != d {
			diags = append(diags, d.diag(api.DTwice))
		}
		for i, part := range d.parts {
			if tree.Find(d.parts, part.Name) < i {
				diags = append(diags, d.diag(api.DTwice))
			}
			if part.Type != "" && !t.Known(part.Type) {
				diags = append(diags, d.diag(api.DName))
			}
		}
	}
	return diags
}

// tooGreat: what is told of declarations that are sound, but too great. All are measured behind that.
func (t *Table) tooGreat(list []*declaration) []api.Diag {
	var diags []api.Diag
	for _, d := range list {
		t.measure(d)
		if d.slots == tooMany {
			diags = append(diags, d.diag(api.DSize))
		}
	}
	return diags
}

// measure: how many slots a declaration has, and whether it needs drop, is kept with it. It is done once for each: the ways down through its parts may be too many to go.
func (t *Table) measure(d *declaration) {
	if d.slots > 0 {
		return
	}
	// Who comes back here meanwhile stands within itself, and has no end.
	d.slots, d.drops = tooMany, d.hook
	sum, greatest := 0, 0
	for _, part := range d.parts {
		if below := t.find(part.Type); below != nil {
			t.measure(below)
		}
		n := t.Slots(part.Type)
		sum, greatest = sum+n, max(greatest, n)
		d.drops = d.drops || t.Drops(part.Type)
	}
	if d.isStruct() {
		d.slots = min(max(sum, 1), tooMany)
	} else {
		d.slots = min(1+greatest, tooMany)
	}
}
