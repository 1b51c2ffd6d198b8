package pages

import (
	"oxbow/api"
	"oxbow/dev"
)

// Where all stands among the journal's home sectors.
const (
	rootSector  = 0
	firstMarks  = 1
	markSectors = 4 // they have a bit for each page of the greatest device
	firstPage   = firstMarks + markSectors
	pageSectors = 4 // a byte that tells how many bytes the page has, and these
)

// block is the bytes of a sector.
type block [api.Sector]byte

// marks are a bit for each page, set if it is live; as they stand on the device.
type marks [markSectors]block

// room is how many pages a device has room for. It counts only the home sectors that every journal has: so it is known of a device that no journal can be opened on.
func room(d *dev.Dev) int {
	return (d.Sectors() - api.WalMin - firstPage) / pageSectors
}

// home is the first home sector of a page.
func home(page int) int { return firstPage + (page-1)*pageSectors }

// place is where a page's bit stands: in which sector, in which byte of it, and as which bit.
func place(page int) (int, int, byte) {
	at := page / 8
	return at / api.Sector, at % api.Sector, 1 << (page % 8)
}

func (m *marks) has(page int) bool {
	i, at, bit := place(page)
	return m[i][at]&bit != 0
}

func (m *marks) set(page int) {
	i, at, bit := place(page)
	m[i][at] |= bit
}

func (m *marks) clear(page int) {
	i, at, bit := place(page)
	m[i][at] &^= bit
}

// rootBlock is the sector that names the root; for none it is zeros.
func rootBlock(root int) block { return block{byte(root >> 8), byte(root)} }

// load takes the root and the marks from the device.
func (p *Pages) load() api.Errno {
	head, e := p.block(rootSector)
	if e != api.OK {
		return e
	}
	for i := range p.live {
		if p.live[i], e = p.block(firstMarks + i); e != api.OK {
			return e
		}
	}
	p.root = int(head[0])<<8 | int(head[1])
	if head != rootBlock(p.root) || !p.sound() {
		return api.ErrPagesForm
	}
	return api.OK
}

// sound tells whether only pages are marked for which there is room, and the root is one of them or none.
func (p *Pages) sound() bool {
	var known marks
	for page := 1; page <= p.size; page++ {
		if p.live.has(page) {
			known.set(page)
		}
	}
	return known == p.live && (p.root == 0 || p.has(p.root) && p.live.has(p.root))
}

// read is the bytes of a page that was put.
func (p *Pages) read(page int) (string, api.Errno) {
	all, e := p.w.Read(home(page))
	if e != api.OK {
		return "", e
	}
	end := 1 + int(all[0])
	for len(all) < end {
		more, e := p.w.Read(home(page) + len(all)/api.Sector)
		if e != api.OK {
			return "", e
		}
		all += more
	}
	return all[1:end], api.OK
}

// write brings a Put to the device. The pages are made safe ahead of the marks that tell of them, as a Commit that is cut off may be found whole without what was staged ahead of it. When the device goes down, the journal is lost, and all that follows answers ErrDown: so only the last call is asked.
func (p *Pages) write(l []api.Page, live marks, root int) api.Errno {
	for _, x := range l {
		p.stage(x)
	}
	p.w.Commit(nil)
	return p.w.Commit(p.news(live, root))
}

// stage writes a free page's sectors, as many as its bytes need.
func (p *Pages) stage(x api.Page) {
	all := string([]byte{byte(len(x.Bytes))}) + x.Bytes
	for at := 0; at < len(all); at += api.Sector {
		var b block
		copy(b[:], all[at:])
		p.w.Stage(home(x.Num)+at/api.Sector, string(b[:]))
	}
}

// news is what the root and the marks are to become, where that is another than they are.
func (p *Pages) news(live marks, root int) []api.Write {
	var l []api.Write
	if root != p.root {
		l = append(l, writeOf(rootSector, rootBlock(root)))
	}
	for i, b := range live {
		if b != p.live[i] {
			l = append(l, writeOf(firstMarks+i, b))
		}
	}
	return l
}

func writeOf(sector int, b block) api.Write { return api.Write{Sector: sector, Bytes: string(b[:])} }

// block reads a home sector.
func (p *Pages) block(sector int) (block, api.Errno) {
	var b block
	bytes, e := p.w.Read(sector)
	copy(b[:], bytes)
	return b, e
}
