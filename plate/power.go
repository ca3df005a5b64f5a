package plate

import (
	"slices"

	"espalier/api"
)

// Arm says behind how many acts the power fails (below 0: never), and how the device falls then.
func (p *Plate) Arm(acts int, f api.Fall) {
	if p.down {
		return
	}
	p.disarm()
	if acts < 0 {
		return
	}
	p.armed, p.left = true, acts
	p.plan = api.Fall{Keep: slices.Clone(f.Keep), Torn: f.Torn, At: f.At}
}

// Crash has the power fail now, outside of any act.
func (p *Plate) Crash(f api.Fall) {
	if !p.down {
		p.fall(f)
	}
}

// Up tells whether the device is up.
func (p *Plate) Up() bool { return !p.down }

// Start puts it up again, with what the fall has left.
func (p *Plate) Start() { p.down = false }

// fails counts an act off, and tells whether the power has failed in it.
func (p *Plate) fails() bool {
	if !p.armed {
		return false
	}
	if p.left > 0 {
		p.left--
		return false
	}
	p.fall(p.plan)
	return true
}

// fall lays those of the loose writes that f says, or parts of them. They are laid in their order, so that of two to one page the later one wins, whatever the order of f.Keep.
func (p *Plate) fall(f api.Fall) {
	stays := make([]int, len(p.loose))
	for _, k := range f.Keep {
		if k >= 0 && k < len(stays) {
			stays[k] = p.page
		}
	}
	if f.Torn >= 0 && f.Torn < len(stays) {
		stays[f.Torn] = min(max(f.At, 0), p.page)
	}
	for k, w := range p.loose {
		copy(p.ground(w.page), w.bytes[:stays[k]])
	}
	p.forget()
	p.disarm()
	p.down = true
}

func (p *Plate) disarm() {
	p.armed, p.left, p.plan = false, 0, api.Fall{}
}
