package core

import "deadlatch/api"

// Port is what a thread asks: memory, its own buffer, and who sleeps.
type Port struct {
	Size   int
	Load   func(addr int) uint32
	Room   func() bool
	Store  func(addr int, v uint32)
	Empty  func() bool
	Flush  func()
	Swap   func(addr int, v uint32) uint32
	Sleep  func(addr int)
	Wake   func(addr int, n uint32) uint32
	Remote func()
	Note   func(x api.Event)
}

// whole answers a port without holes: a function that isn't there does nothing and tells zero values, so that no step panics by it.
func whole(p Port) Port {
	nothing := func() {}
	no := func() bool { return false }
	if p.Load == nil {
		p.Load = func(int) uint32 { return 0 }
	}
	if p.Room == nil {
		p.Room = no
	}
	if p.Store == nil {
		p.Store = func(int, uint32) {}
	}
	if p.Empty == nil {
		p.Empty = no
	}
	if p.Flush == nil {
		p.Flush = nothing
	}
	if p.Swap == nil {
		p.Swap = func(int, uint32) uint32 { return 0 }
	}
	if p.Sleep == nil {
		p.Sleep = func(int) {}
	}
	if p.Wake == nil {
		p.Wake = func(int, uint32) uint32 { return 0 }
	}
	if p.Remote == nil {
		p.Remote = nothing
	}
	if p.Note == nil {
		p.Note = func(api.Event) {}
	}
	return p
}
